import Derived.Test.YtldaocpojcfljaaGreatDoorC38
set_option maxRecDepth 100000
set_option maxHeartbeats 4000000
namespace Go.Proofs.YtldaocpojcfljaaGreatDoor
open Tryz hiding parts
open Go.RowKit Go.Shelf
section
open Sc
mutual
theorem qb9:∀d:Dt,parts d=members d+1
 | .num _=>rfl
 | .bool _=>rfl
 | .str _=>rfl
 | .sym _ _=>rfl
 | .list l=>by simp only [parts,members,qcu l];omega
theorem qcu:∀l:List Dt,partsL l=membersL l
 | []=>rfl
 |d::r=>by simp only [partsL,membersL,qb9 d,qcu r];omega
end
theorem qg2 {S:Sub} {x:Xs} {mc:Macro} {r:List Dt} {sc:Scope} {d:Dt} {x1:Xs} {x2:Xs} (h:use S x mc r sc=(.ok (d,x1),x2)):parts d≤600:=by
 rw [use_eq]at h
 split at h
 ·simp at h
 ·unfold useD at h
  simp only at h
  cases hf:mc.rules.findSome? (fun r'=>(matchL mc.lits sc r'.1 r).map (fun b=>(b,r'.2)))with
  |none=>rw [hf]at h;simp at h
  |some bt=>
   rw [hf]at h
   simp only at h
   cases hp:putT ((x.count+1:Nat):Int) bt.1 bt.2 with
   |none=>rw [hp]at h;simp at h
   |some d'=>
    rw [hp]at h
    simp only at h
    by_cases h6:parts d'≤600
    ·simp [h6]at h;obtain⟨⟨rfl,_⟩,_⟩:=h;exact h6
    ·simp [h6]at h
theorem qso {S:Sub} {f:Nat} {x:Xs} {sc:Scope} {t:Bs} {k:Int} {r:List Dt} {mc:Macro} (h:x.means (t,k) sc=.mac mc):form S (f+1) x sc (.list (.sym t k::r))=match use S x mc r sc with
  |(.error e,x)=>(.error e,x)
  |(.ok (d,x),_)=>form S f x sc d:=by
 simp only [form,h];rfl
theorem qhb (S:Sub):∀(f:Nat) (x:Xs) (sc:Scope) (d:Dt),(form S f x sc d).1≠.error 0→members d≤1000000000000→
  (∃j x' d',rewr S f x sc d=(.ok d',x')∧j+1≤f∧form S f x sc d=form S (j+1) x' sc d'∧(leadN x' sc d').1≠2∧members d'≤1000000000000)∨(∃vd x',rewr S f x sc d=(.error vd,x')∧form S f x sc d=(.error vd,x'))
 |0,x,sc,d,h,_=>absurd rfl h
 |f+1,x,sc,d,h,hm=>by
  by_cases h2:(leadN x sc d).1=2
  ·obtain⟨t,k,r,mc,rfl,hmeans,_,_⟩:=qgg h2
   have e1:rewr S (f+1) x sc (.list (.sym t k::r))=match use S x mc r sc with
     |(.error e,x)=>(.error e,x)
     |(.ok (d,x),_)=>rewr S f x sc d:=by simp only [rewr,hmeans];rfl
   rw [qso hmeans]at h⊢
   rw [e1]
   cases hu:use S x mc r sc with
   |mk ur ux=>
    rw [hu]at h
    cases ur with
    |error e=>exact .inr ⟨e,ux,rfl,rfl⟩
    |ok p=>
     obtain⟨d1,x1⟩:=p
     simp only at h⊢
     have hp:=qg2 hu
     rw [qb9]at hp
     rcases qhb S f x1 sc d1 h (by omega)with⟨j,x',d',q1,q2,q3,q4,q5⟩|q
     ·exact .inl ⟨j,x',d',q1,by omega,q3,q4,q5⟩
     ·exact .inr q
  ·exact .inl ⟨f,x,d,qeq h2,Nat.le_refl _,rfl,h2,hm⟩
theorem qko {t:Bs} {k:Kw} (h:Kw.of t=some k):(k=.quote∧t=[113,117,111,116,101])∨(k=.ite∧t=[105,102])∨(k=.define∧t=[100,101,102,105,110,101])∨(k=.set∧t=[115,101,116,33])∨(k=.lambda∧t=[108,97,109,98,100,97])∨(k=.let'∧t=[108,101,116])∨(k=.begin∧t=[98,101,103,105,110])∨(k=.synx'∧t=[100,101,102,105,110,101,45,115,121,110,116,97,120]):=by
 unfold Kw.of at h
 split at h
 ·rename_i e;cases h;exact .inl ⟨rfl,e⟩
 split at h
 ·rename_i e;cases h;exact .inr (.inl ⟨rfl,e⟩)
 split at h
 ·rename_i e;cases h;exact .inr (.inr (.inl ⟨rfl,e⟩))
 split at h
 ·rename_i e;cases h;exact .inr (.inr (.inr (.inl ⟨rfl,e⟩)))
 split at h
 ·rename_i e;cases h;exact .inr (.inr (.inr (.inr (.inl ⟨rfl,e⟩))))
 split at h
 ·rename_i e;cases h;exact .inr (.inr (.inr (.inr (.inr (.inl ⟨rfl,e⟩)))))
 split at h
 ·rename_i e;cases h;exact .inr (.inr (.inr (.inr (.inr (.inr (.inl ⟨rfl,e⟩))))))
 split at h
 ·rename_i e;cases h;exact .inr (.inr (.inr (.inr (.inr (.inr (.inr ⟨rfl,e⟩))))))
 ·cases h
theorem qfo {x:Xs} {sc:Scope} {t:Bs} {k:Int} {r:List Dt} (h:(leadN x sc (.list (.sym t k::r))).1≠2):(x.means (t,k) sc=.var∧kwN x sc (.list (.sym t k::r))=[])∨∃kk,Kw.of t=some kk∧x.means (t,k) sc=.kw kk∧kwN x sc (.list (.sym t k::r))=t:=by
 have hl:leadN x sc (.list (.sym t k::r))=(meanN x (t,k) sc,t):=rfl
 rw [hl]at h
 unfold kwN
 rw [hl]
 unfold Xs.means
 cases hf:find (t,k) sc with
 |some p=>exact .inl ⟨rfl,by simp [meanN,hf]⟩
 |none=>
  cases hk:Kw.of t with
  |some kk=>exact .inr ⟨kk,rfl,rfl,by simp [meanN,hf,hk]⟩
  |none=>
   cases hm:x.mcr t with
   |some mm=>exfalso;apply h;simp [meanN,hf,hk,hm]
   |none=>exact .inl ⟨rfl,by simp [meanN,hf,hk,hm]⟩
theorem list_of {K:Rl} {S:Sub} {j:Nat} (hall:∀i,i<j+1→FormS K S i∧FormsS K S i∧LambdaS K S i) (X:Xe) (G:Gh) (m:Mc) (x:Xs) (sc:Scope) (w:World) (l:List Dt) (e:Dl) (g:Inv G S m w) (i:XInv K X G S x sc w) (hd:DRep G (.list l) e) (hmb:members (.list l)≤1000000000000) (hsc:sc.length+(j+1)≤1000000000) (h2:(leadN x sc (.list l)).1≠2) (hne:(form S (j+1) x sc (.list l)).1≠.error 0):
  Calls prog 297 #[bp X.xb,.agg e.cells] w (XPost K X G S m sc w (form S (j+1) x sc (.list l))):=by
 have hmb:membersL l≤1000000000000:=hmb
 have apps:∀l':List Dt,l'=l→l'≠[]→kwN x sc (.list l')=[]→form S (j+1) x sc (.list l')=app S j x sc l'→Calls prog 297 #[bp X.xb,.agg e.cells] w (XPost K X G S m sc w (form S (j+1) x sc (.list l'))):=by
  intro l' hl hnil hkw hf
  subst hl
  rw [hf]at hne⊢
  cases j with
  |zero=>exact absurd rfl hne
  |succ f=>exact qtg (hall f (by omega)).2.1 X G m x sc w l' e g i hd hmb hnil hkw (by omega) hne
 cases l with
 |nil=>
  have hlen:e.len=0:=by
   cases hd with
   |nil e h hl=>exact hl
   |list e h l es g o arr hl hc hm ha hg hr hs=>cases hs;exact hl
  obtain⟨xk,xn,xtr,xtx,xm,xa,xlen,xcap⟩:=e
  obtain rfl:xlen=0:=hlen
  exact qja X.xb xk xn xtr xtx xm xa xcap w _ fun w' hb=>XPost.bad g i rfl hb
 |cons d r=>
  cases d with
  |num v=>exact apps _ rfl nofun rfl rfl
  |bool v=>exact apps _ rfl nofun rfl rfl
  |str v=>exact apps _ rfl nofun rfl rfl
  |list v=>exact apps _ rfl nofun rfl rfl
  |sym t k=>
   rcases qfo h2 with⟨hm,hkw⟩|⟨kk,hk,hm,hkw⟩
   ·exact apps _ rfl nofun hkw (by simp only [form,hm])
   ·have hf:form S (j+1) x sc (.list (.sym t k::r))=keyword S j x sc kk r:=by simp only [form,hm]
    rw [hf]at hne⊢
    cases j with
    |zero=>exact absurd rfl hne
    |succ f=>
     have A:At K X G S m x sc w t k r e:=⟨g,i,hd,hkw,by simp only [membersL,members]at hmb;omega⟩
     have hs:sc.length+f≤1000000000:=by omega
     obtain⟨h1,h3,h4⟩:=hall f (by omega)
     rcases qko hk with⟨rfl,rfl⟩|⟨rfl,rfl⟩|⟨rfl,rfl⟩|⟨rfl,rfl⟩|⟨rfl,rfl⟩|⟨rfl,rfl⟩|⟨rfl,rfl⟩|⟨rfl,rfl⟩
     ·exact qlo f X G m x sc w k r e A
     ·exact if_case h3 X G m x sc w k r e A hs hne
     ·have hrow:=A.d.row
      have hW:=qcc A.g A.i A.d (s:=⟨#[100,101,102,105,110,101]⟩) A.kw.symm
      obtain⟨xk,xn,xtr,xtx,xm,xa,xlen,xcap⟩:=e
      have hlen:xlen=r.length+1:=by obtain⟨es,h1,_⟩:=hrow;simpa using h1
      have hn:xlen≤30000:=by obtain⟨es,h1,h2,h3,h4,h5,h6⟩:=hrow;exact h5
      subst hlen
      exact qfa X.xb 0 xk xn xtr xtx xm xa r.length xcap w _ (by omega) hW (A.bad (by simp only [keyword]))
     ·exact qrb h1 X G m x sc w k r e A hs hne
     ·exact qjh h4 X G m x sc w k r e A hs hne
     ·exact qr4 h4 h3 X G m x sc w k r e A hs hne
     ·exact qm4 h3 X G m x sc w k r e A hs hne
     ·have hrow:=A.d.row
      have hW:=qcc A.g A.i A.d (s:=⟨#[100,101,102,105,110,101,45,115,121,110,116,97,120]⟩) A.kw.symm
      obtain⟨xk,xn,xtr,xtx,xm,xa,xlen,xcap⟩:=e
      have hlen:xlen=r.length+1:=by obtain⟨es,h1,_⟩:=hrow;simpa using h1
      have hn:xlen≤30000:=by obtain⟨es,h1,h2,h3,h4,h5,h6⟩:=hrow;exact h5
      subst hlen
      exact qe8 X.xb 0 xk xn xtr xtx xm xa r.length xcap w _ (by omega) hW (A.bad (by simp only [keyword]))
end
section
open Sc
theorem qgs {K:Rl} {X:Xe} {G H:Gh} {S:Sub} {m:Mc} {x x':Xs} {sc:Scope} {w w1 w2 W:World} {e e2:Dl} (g:Inv G S m w) (i:XInv K X G S x sc w) (hw1:Lk (w.alloc (.cells e.cells 134)) w1) (mx:Mx X G w1 X H w2) (g2:Inv H S m w2) (i2:XInv K X H S x' sc w2)
  (hW:Lk (set6 w2 w.heap.size (.int .i64 e2.k) (.int .i64 e2.n) (.bool e2.tr) (.string e2.tx) (.int .i64 e2.m) (.slice e2.a e2.len e2.cap)) W):w2.heap[w.heap.size]? =some (.cells e.cells 134 (0,0))∧Inv H S m W∧XInv K X H S x' sc W∧Mx X G w X H W:=by
 have hnew:w1.heap[w.heap.size]? =some (.cells e.cells 134 (0,0)):=by rw [hw1.heap];exact heap_alloc_new _ _
 obtain⟨hl,hk⟩:=(LooseX.new g i (Nat.le_refl _)).mx mx (Array.getElem?_eq_some_iff.1 hnew).1
 have hb1:Below w.heap.size w w1:=bl1 hw1
 have mx2:Mx X G w X H w2:=(Mx.ofBelow hb1).trans mx
 refine⟨by rw [hk];exact hnew,Inv.lk hW (qrc g2 hl.I hl.mu hl.F),(set6_x i2 hl.O hl.R).below (bl0 hW),?_⟩
 have m6:Mx X G w X H (set6 w2 w.heap.size (.int .i64 e2.k) (.int .i64 e2.n) (.bool e2.tr) (.string e2.tx) (.int .i64 e2.m) (.slice e2.a e2.len e2.cap)):=(((((mx2.set (Nat.le_refl _)).set (Nat.le_refl _)).set (Nat.le_refl _)).set (Nat.le_refl _)).set (Nat.le_refl _)).set (Nat.le_refl _)
 exact m6.lk hW
theorem DRep.kind {G:Gh} {d:Dt} {e:Dl} (h:DRep G d e):(e.k=3∧d=.sym e.tx.data.toList e.m)∨(e.k=4∧∃l,d=.list l)∨(e.k≠3∧e.k≠4∧(∀t m,d≠.sym t m)∧(∀l,d≠.list l)):=by
 cases h with
 |num e h=>exact .inr (.inr ⟨by omega,by omega,nofun,nofun⟩)
 |bool e h=>exact .inr (.inr ⟨by omega,by omega,nofun,nofun⟩)
 |str e h=>exact .inr (.inr ⟨by omega,by omega,nofun,nofun⟩)
 |sym e h=>exact .inl ⟨h,rfl⟩
 |nil e h=>exact .inr (.inl ⟨h,[],rfl⟩)
 |list e h l=>exact .inr (.inl ⟨h,l,rfl⟩)
theorem form_of {K:Rl} {S:Sub} (hR:SimRewr K S) {f:Nat} (hall:∀i,i<f→FormS K S i∧FormsS K S i∧LambdaS K S i):FormS K S f:=by
 intro X G m x sc w d e g i hd hmb hsc hne
 have hrf:=qhb S f x sc d hne hmb
 obtain⟨xk,xn,xtr,xtx,xm,xa,xlen,xcap⟩:=e
 have hxb:X.xb<w.heap.size:=g.lt i.xe
 refine qpb X.xb G.mb xk xn xtr xtx xm xa xlen xcap w _ hxb fun w1 hw1=>?_
 have hb1:Below w.heap.size w w1:=bl1 hw1
 have hrne:(rewr S f x sc d).1≠.error 0:=by
  rcases hrf with⟨j,x',d',h1,_⟩|⟨vd,x',h1,h2⟩
  ·rw [h1];exact nofun
  ·rw [h2]at hne;rw [h1];exact fun h=>hne (by cases h;rfl)
 refine Calls.mono (hR X G m x sc w1 d _ f (g.below hb1) (i.below hb1) hd hrne) ?_
 rintro e' w2 (⟨H,d',x',e2,hrv,rfl,mx,g2,i2,hd2⟩|⟨vd,x',hrv,rfl,hc,hmt⟩)
 ·rcases hrf with⟨j,x1,d1,h1,hj,hform,hlead,hmem⟩|⟨vd,x1,h1,h2⟩
  ·rw [h1]at hrv
   obtain⟨rfl,rfl⟩:d1=d'∧x1=x':=by simpa using hrv
   rw [hform]at hne⊢
   have hbox:=(qgs (e2:=e2) g i hw1 mx g2 i2 ⟨rfl,rfl,rfl,rfl⟩).1
   refine .inr ⟨_,rfl,e2,rfl,hbox,?_,fun W hW=>?_⟩
   ·exact i2.cell0 mx g2
   ·obtain⟨_,gW,iW,mxW⟩:=qgs g i hw1 mx g2 i2 hW
    refine⟨fun hk W' hb=>?_,fun hk=>?_,fun h3 h4=>?_⟩
    ·rcases hd2.kind with⟨_,rfl⟩|⟨h,_⟩|⟨h,_⟩
     ·have gW':=gW.below hb
      have iW':=iW.below hb
      refine Calls.mono (var_inv gW' iW' e2.tx e2.m) ?_
      intro e6 w6 h6
      have hfv:form S (j+1) x1 sc (.sym e2.tx.data.toList e2.m)=(match varEx x1 (e2.tx.data.toList,e2.m) sc with|some e=>.ok e|none=>.error 4,x1):=rfl
      cases hv:varEx x1 (e2.tx.data.toList,e2.m) sc with
      |some ex=>
       rw [hv]at h6
       exact qn1 (mxW.below hb) iW' h6 (by rw [hfv,hv])
      |none=>
       rw [hv]at h6
       obtain⟨rfl,hb6⟩:=h6
       refine .inl ⟨_,rfl,XPost.from (mxW.below hb) (XPost.bad gW' iW' (by rw [hfv,hv]) hb6)⟩
     ·omega
     ·exact absurd hk h
    ·rcases hd2.kind with⟨h,_⟩|⟨_,l,rfl⟩|⟨_,h,_⟩
     ·omega
     ·have key:=list_of (j:=j) (fun i hi=>hall i (by omega)) X H m x1 sc W l e2 gW iW hd2 hmem (by omega) hlead hne
      exact Calls.mono key fun e6 w6 h6=>(XPost.from mxW h6).rq
     ·exact absurd hk h
    ·have hq:form S (j+1) x1 sc d1=(.ok (.quo d1),x1):=by
      cases d1 with
      |num v=>rfl
      |bool v=>rfl
      |str v=>rfl
      |sym t k=>rcases hd2.kind with⟨h,_⟩|⟨_,l,h⟩|⟨_,_,h,_⟩;exact absurd h h3;cases h;exact absurd rfl (h _ _)
      |list l=>rcases hd2.kind with⟨_,h⟩|⟨h,_⟩|⟨_,_,_,h⟩;cases h;exact absurd h h4;exact absurd rfl (h _)
     have key:=qky (sh:=shOf sc) gW hd2 hmem
     rw [mxW.up.le.mb]at key
     exact Calls.mono key fun e6 w6 h6=>qn1 mxW iW h6 hq
  ·rw [h1]at hrv;simp at hrv
 ·rcases hrf with⟨j,x1,d1,h1,_⟩|⟨vd1,x1,h1,h2⟩
  ·rw [h1]at hrv;simp at hrv
  ·rw [h1]at hrv
   obtain⟨rfl,rfl⟩:vd1=vd∧x1=x':=by simpa using hrv
   exact .inl ⟨_,rfl,.inl ⟨vd1,x1,h2,rfl,hc,hmt⟩⟩
theorem all_of {K:Rl} {S:Sub} (hR:SimRewr K S):∀f,FormS K S f∧FormsS K S f∧LambdaS K S f:=by
 intro f
 induction f using Nat.strongRecOn with
 |ind f ih=>
  refine⟨form_of hR ih,forms_of fun j hj=>(ih j hj).1,?_⟩
  cases f with
  |zero=>intro X G m x sc w p e l a len cap _ _ _ _ _ _ _ h;exact absurd rfl h
  |succ f=>exact qox (ih f (by omega)).2.1
end
section
open Sc
theorem XInv.setMac {K:Rl} {X:Xe} {G:Gh} {S:Sub} {x x':Xs} {sc:Scope} {w:World} (i:XInv K X G S x sc w) {es':Array MapEntry} {clock:Nat} {L':List (Bs×Value)} (hc:x'.count=x.count) (he:es'.toList.map (fun e=>(e.key,e.val))=L'.map (fun p=>(Value.string ⟨p.1.toArray⟩,p.2))) (hm:McRows K.R G x'.macros L'):XInv K X G S x' sc (setB w X.mm (.map es' clock)):=by
 obtain⟨n1,n2,n3,n4,n5,n6⟩:=i.nab
 have kb:∀b,b≠X.mm→(setB w X.mm (.map es' clock)).heap[b]? =w.heap[b]?:=fun b hb=>qbl hb
 obtain⟨L,hL,hLb⟩:=i.bd
 obtain⟨es,cl,M,hm1,hm2,hm3⟩:=i.mc
 have hlo:=(i.lo X.mm (by simp)).2.2.1
 refine⟨i.xe,by rw [hc];exact i.mt.keep (kb _ n6),by rw [hc];exact i.ml,by rw [kb _ (Ne.symm n3)];exact i.ab,⟨L,⟨by rw [kb _ (Ne.symm n4)];exact hL.1,hL.2.1,fun p hp=>qbd (hL.2.2.1 p hp) fun q hq=>kb q (by have:=((hL.2.2.1 p hp).lt q hq).1;omega),hL.2.2.2⟩,hLb⟩,fun b hb=>by rw [qbw];exact i.rr b hb,⟨es',clock,L',qf6 hm1,he,hm⟩,i.lo,i.nd,by rw [qbw];exact i.sl,i.sz⟩
theorem Inv.setB {K:Rl} {X:Xe} {G:Gh} {S:Sub} {m:Mc} {x:Xs} {sc:Scope} {w:World} (g:Inv G S m w) (i:XInv K X G S x sc w) (o:Obj):Inv G S m (setB w X.mm o):=by
 obtain⟨h1,h2,_,h4⟩:=i.lo X.mm (by simp)
 exact g.turns (fun j hj hn=>qbl fun e=>hn (by subst e;exact⟨h1,h2,h4⟩)) (by rw [qbw];exact Nat.le_refl _) ⟨rfl,rfl,rfl⟩
theorem Mx.setB {X Y:Xe} {G H:Gh} {w w':World} (mx:Mx X G w Y H w') (o:Obj):Mx X G w Y H (setB w' Y.mm o):=
 ⟨mx.same,mx.up,mx.I,mx.mu,mx.rw,fun {k} h1 h2 h3 h4=>by rw [qbl (fun e=>h3 (by rw [e,mx.same.2.2.1];simp))];exact mx.blk h1 h2 h3 h4,by rw [qbw];exact mx.size⟩
def TCode (H:Gh) (ex:Ex) (v:Value):Prop:=(ex=.skip∧v=.func (.func 235) #[] #[])∨CRep H [] ex v
def TPost (K:Rl) (X:Xe) (G:Gh) (S:Sub) (m:Mc) (w:World) (rv:Except Nat Ex×Xs) (e':Ending) (w':World):Prop:=
 (∃vd x',rv=(.error vd,x')∧e'=.panicked (stopP (stopV vd))∧Cnt G S m w'∧Mt X.rb (Xs.count x') S.rewrites 12 w')∨
 (∃Y H ex x' v,rv=(.ok ex,x')∧e'=.returned v∧Mx X G w Y H w'∧Inv H S m w'∧XInv K Y H S x' [] w'∧TCode H ex v)
theorem TPost.of {K:Rl} {X:Xe} {G:Gh} {S:Sub} {m:Mc} {w:World} {rv:Except Nat Ex×Xs} {e':Ending} {w':World} (h:XPost K X G S m [] w rv e' w'):TPost K X G S m w rv e' w':=by
 rcases h with h|⟨Y,H,ex,x',v,h1,h2,h3,h4,h5,h6⟩
 ·exact .inl h
 ·exact .inr ⟨Y,H,ex,x',v,h1,h2,h3,h4,h5,.inr h6⟩
theorem TPost.ends {K:Rl} {X:Xe} {G:Gh} {S:Sub} {m:Mc} {w w':World} {rv:Except Nat Ex×Xs} {e:Ending} (h:TPost K X G S m w rv e w'):(∃v,e=.returned v)∨(∃ps,e=.panicked ps):=by
 rcases h with⟨_,_,_,rfl,_⟩|⟨_,_,_,_,v,_,rfl,_⟩
 ·exact .inr ⟨_,rfl⟩
 ·exact .inl ⟨_,rfl⟩
theorem TPost.from {K:Rl} {X Y:Xe} {G H:Gh} {S:Sub} {m:Mc} {w w2:World} {rv:Except Nat Ex×Xs} {e':Ending} {w':World} (mx:Mx X G w Y H w2) (h:TPost K Y H S m w2 rv e' w'):TPost K X G S m w rv e' w':=by
 rcases h with⟨vd,y,h1,rfl,hc,hmt⟩|⟨Z,L,ex,y,v,h1,rfl,h2,h3,h4,h5⟩
 ·exact .inl ⟨vd,y,h1,rfl,hc.up mx.up,by rw [←mx.same.2.1];exact hmt⟩
 ·exact .inr ⟨Z,L,ex,y,v,h1,rfl,mx.trans h2,h3,h4,h5⟩
theorem TPost.bad {K:Rl} {X:Xe} {G:Gh} {S:Sub} {m:Mc} {x:Xs} {w w':World} {rv:Except Nat Ex×Xs} (g:Inv G S m w) (i:XInv K X G S x [] w) (h:rv=(.error 4,x)) (hb:Below w.heap.size w w'):TPost K X G S m w rv (.panicked (stopP (stopV 4))) w':=TPost.of (XPost.bad g i h hb)
theorem qey {K:Rl} {X:Xe} {G:Gh} {S:Sub} {m:Mc} {x:Xs} {w:World} {d:Dt} {e:Dl} (g:Inv G S m w) (i:XInv K X G S x [] w) (hd:DRep G d e):Calls prog 291 #[bp X.xb,.agg e.cells] w fun e' w'=>(∃t k,d=.sym t k∧Kw.of t=none∧t=e.tx.data.toList∧e'=.returned (.string e.tx)∧Inv G S m w'∧XInv K X G S (x.drop t) [] w'∧Mx X G w X G w')∨
  ((∀t k,d=.sym t k→(Kw.of t).isSome)∧e'=.panicked (stopP (stopV 4))∧Below w.heap.size w w'):=by
 obtain⟨xk,xn,xtr,xtx,xm,xa,xlen,xcap⟩:=e
 rcases hd.kind with⟨h3,rfl⟩|⟨h4,l,rfl⟩|⟨h3,_,h5,_⟩
 ·obtain rfl:xk=3:=h3
  cases hk:Kw.of xtx.data.toList with
  |some kk=>
   refine Calls.mono (qgn X.xb xn xtr xtx xm xa xlen xcap w (by rw [hk];rfl)) ?_
   rintro e' w' ⟨rfl,hb⟩
   exact .inr ⟨fun t k h=>by cases h;rw [hk];rfl,rfl,hb⟩
  |none=>
   obtain⟨es,clock,M,hm1,hm2,hm3⟩:=i.mc
   obtain⟨es',L',hdel,he',hmr⟩:=qmu X.mm es clock M K.R G x.macros xtx hm2 hm3
   have c2:w.cell? ⟨X.xb,2,none⟩=some (.map (some X.mm)):=by rw [g.cell i.xe];rfl
   refine Calls.mono (qgm X.xb X.mm xn xtr xtx xm xa xlen xcap es es' clock w c2 hm1 (by rw [hk];rfl) hdel) ?_
   rintro e' w' ⟨rfl,w1,hb,hl⟩
   have g1:=g.below hb
   have i1:=i.below hb
   refine .inl ⟨_,_,rfl,hk,rfl,rfl,Inv.lk hl (g1.setB i1 _),(i1.setMac (x':=x.drop xtx.data.toList) rfl he' hmr).below (bl0 hl),((Mx.ofBelow hb).setB _).lk hl⟩
 ·refine Calls.mono (qcx X.xb xk xn xtr xtx xm xa xlen xcap w (by have h:xk=4:=h4;omega)) ?_
  rintro e' w' ⟨rfl,hb⟩
  exact .inr ⟨nofun,rfl,hb⟩
 ·refine Calls.mono (qcx X.xb xk xn xtr xtx xm xa xlen xcap w h3) ?_
  rintro e' w' ⟨rfl,hb⟩
  exact .inr ⟨fun t k h=>absurd h (h5 t k),rfl,hb⟩
end
section
open Sc
structure AtD (K:Rl) (X:Xe) (G:Gh) (S:Sub) (m:Mc) (x:Xs) (w:World) (t0:Bs) (k:Int) (r:List Dt) (a:Option Addr) (len cap:Nat):Prop where
 g:Inv G S m w
 i:XInv K X G S x [] w
 row:DRow G a len cap (.sym t0 k::r)
 mb:membersL r≤1000000000000
theorem qps {K:Rl} {X Y:Xe} {G H:Gh} {S:Sub} {m:Mc} {x':Xs} {w w5 w6:World} {rv:Except Nat Ex×Xs} {ex:Ex} {e':Ending} (mx:Mx X G w Y H w5) (hx:XInv K Y H S x' [] w5) (h:Made H S m w5 [] ex e' w6) (hrv:rv=(.ok ex,x')):
  ∃v,e'=.returned v∧w6.cell? ⟨X.xb,0,none⟩=some (bp G.mb)∧(∀b,b<w5.heap.size→LooseX Y H b→w6.heap[b]? =w5.heap[b]?)∧(∀{b:Nat} {o:Obj},H.I b=some o→w6.heap[b]? =some o)∧TPost K X G S m w rv (.returned v) w6:=by
 obtain⟨L,v,rfl,hmv,hi,hc⟩:=h
 have hx6:=hx.mv hmv
 exact⟨v,rfl,hx6.cell0 (mx.mv hmv) hi,fun b hb hl=>hmv.blk hb hl.mu,fun hb=>hi.imm (hmv.up.le.I hb),.inr ⟨Y,L,ex,x',v,hrv,rfl,mx.mv hmv,hi,hx6,.inr hc⟩⟩
theorem cell_of {w:World} {b:Nat} {c:Array Value} {t:Nat} (h:w.heap[b]? =some (.cells c t (0,0))) (o:Nat):w.cell? ⟨b,o,none⟩=c[o]?:=by simp [World.cell?,h]
theorem qjr {K:Rl} {S:Sub} {f:Nat} (hF:FormS K S f) (hL:LambdaS K S f) (X:Xe) (G:Gh) (m:Mc) (x:Xs) (w:World) (t0:Bs) (k:Int) (r:List Dt) (a:Option Addr) (len cap:Nat) (A:AtD K X G S m x w t0 k r a len cap) (hsc:f≤1000000000) (hne:(define S f x r).1≠.error 0):
  Calls prog 233 #[bp X.xb,.slice a len cap] w (TPost K X G S m w (define S f x r)):=by
 obtain⟨g,i,hrow,hmb⟩:=A
 have hlen:len=r.length+1:=by obtain⟨es,h1,_⟩:=hrow;simpa using h1
 have hn:len≤30000:=by obtain⟨es,h1,h2,h3,h4,h5,h6⟩:=hrow;exact h5
 have hcp:len≤cap:=by obtain⟨es,h1,h2,h3,h4,h5,h6⟩:=hrow;exact h4
 have bad:∀{rv:Except Nat Ex×Xs},rv=(.error 4,x)→∀w',Below w.heap.size w w'→TPost K X G S m w rv (.panicked (stopP (stopV 4))) w':=fun h w' hb=>TPost.bad g i h hb
 subst hlen
 match r,hrow,hmb,hn,hcp,hne with
 | [],hrow,hmb,hn,hcp,hne=>exact qde X.xb 1 cap a w _ (by omega) (bad rfl)
 | [d1],hrow,hmb,hn,hcp,hne=>exact qde X.xb 2 cap a w _ (by omega) (bad (by unfold define;split <;> simp_all))
 |d1::d2::r,hrow,hmb,hn,hcp,hne=>
  simp only [List.length_cons]at hn hcp
  obtain⟨gg,o,rfl,⟨arr,hgg⟩,hc⟩:=hrow.cells (by simp)
  obtain⟨y,hy,hcy⟩:=hc 1 d1 rfl
  obtain⟨z,hz,hcz⟩:=hc 2 d2 rfl
  obtain⟨yk,yn,ytr,ytx,ym,ya,ylen,ycap⟩:=y
  obtain⟨zk,zn,ztr,ztx,zm,za,zlen,zcap⟩:=z
  have cy:=hcy S m w g
  have hm2:members d2≤1000000000000:=Nat.le_trans (qca (d1::d2::r) (by simp)) hmb
  have var:yk≠4→(∀l,d1≠.list l)→Calls prog 233 #[bp X.xb,.slice (some ⟨gg,o,none⟩) (r.length+3) cap] w (TPost K X G S m w (define S f x (d1::d2::r))):=by
   intro hk4 hnl
   cases r with
   |cons d3 r=>
    have hd:define S f x (d1::d2::d3::r)=(.error 4,x):=by
     cases d1 with
     |list l=>exact absurd rfl (hnl l)
     |_=>rfl
    exact qfc X.xb gg o r.length cap yk yn ytr ytx ym ya ylen ycap w _ (cy 0 (by omega)) (cy 1 (by omega)) (cy 2 (by omega)) (cy 3 (by omega)) (cy 4 (by omega)) (cy 5 (by omega)) hk4 (by simp at hn;omega) (bad hd)
   |nil=>
    refine qgo X.xb G.mb gg o cap yk yn ytr ytx ym ya ylen ycap zk zn ztr ztx zm za zlen zcap w _ (cy 0 (by omega)) (cy 1 (by omega)) (cy 2 (by omega)) (cy 3 (by omega)) (cy 4 (by omega)) (cy 5 (by omega)) hk4 fun w1 hw1=>?_
    have hb1:Below w.heap.size w w1:=bl1 hw1
    have cz6:∀{H:Gh} {w':World} {m':Mc},G.le H→Inv H S m' w'→(w'.cell? ⟨gg,o+12,none⟩=some (.int .i64 zk)∧w'.cell? ⟨gg,o+12+1,none⟩=some (.int .i64 zn)∧w'.cell? ⟨gg,o+12+2,none⟩=some (.bool ztr)∧w'.cell? ⟨gg,o+12+3,none⟩=some (.string ztx)∧w'.cell? ⟨gg,o+12+4,none⟩=some (.int .i64 zm)∧w'.cell? ⟨gg,o+12+5,none⟩=some (.slice za zlen zcap)):=fun {H w' m'} hle hi=>by
     have hcz0:=hcz S m w g
     have e:∀j,j<6→w'.cell? ⟨gg,o+12+j,none⟩=(Dl.cells ⟨zk,zn,ztr,ztx,zm,za,zlen,zcap⟩)[j]?:=fun j hj=>by
      have:=hcz0 j hj
      rw [g.cell hgg]at this
      rw [hi.cell (hle.I hgg)];exact this
     exact⟨e 0 (by omega),e 1 (by omega),e 2 (by omega),e 3 (by omega),e 4 (by omega),e 5 (by omega)⟩
    refine Calls.mono (qey (g.below hb1) (i.below hb1) hy) ?_
    rintro e' w2 (⟨t,k',rfl,hkw,htx,rfl,g2,i2,mx2⟩|⟨hnot,rfl,hb2⟩)
    ·have htx:t=ytx.data.toList:=htx
     have hdef:define S f x [.sym t k',d2]=match form S f (x.drop t) [] d2 with
       |(.error e,x)=>(.error e,x)
       |(.ok a,x)=>(.ok (.defG t a),x):=by simp only [define,hkw];rfl
     have mx02:Mx X G w X G w2:=(Mx.ofBelow hb1).trans mx2
     refine .inr ⟨_,rfl,ytx,rfl,⟨i2.cell0 mx02 g2,cz6 (Gh.le.refl G) g2⟩,fun w3 hw3=>?_⟩
     have hfne:(form S f (x.drop t) [] d2).1≠.error 0:=fun h=>by
      apply hne
      rw [hdef]
      cases hfr:form S f (x.drop t) [] d2 with
      |mk fr fx=>rw [hfr]at h;have h:fr=.error 0:=h;subst h;rfl
     refine Calls.mono (hF X G m (x.drop t) [] w3 d2 _ (Inv.lk hw3 g2) (i2.below (bl0 hw3)) hz hm2 (by simpa using hsc) hfne) ?_
     rintro e'' w4 (⟨vd,x',hv,rfl,hcn,hmt⟩|⟨Y,H,ex,x',v,hv,rfl,mx,g4,i4,hcr⟩)
     ·exact .inl ⟨_,rfl,.inl ⟨vd,x',by rw [hdef,hv],rfl,hcn,hmt⟩⟩
     ·have mx4:Mx X G w Y H w4:=(mx02.lk hw3).trans mx
      obtain⟨kc,cc,rfl,_⟩:=hcr.isF
      refine .inr ⟨_,rfl,kc,cc,rfl,⟨i4.cell0 mx4 g4,cz6 mx4.up.le g4⟩,fun w5 hw5=>?_⟩
      have key:=def_mk (sh:=[]) (t:=ytx) (Inv.lk hw5 g4) hcr
      rw [mx4.up.le.mb]at key
      refine Calls.mono key fun e6 w6 h6=>?_
      obtain⟨v6,rfl,q1,q2,q3,q4⟩:=qps (rv:=define S f x [.sym t k',d2]) (mx4.lk hw5) (i4.below (bl0 hw5)) h6 (by rw [hdef,hv,htx])
      refine .inr ⟨v6,rfl,⟨q1,?_⟩,q4⟩
      have hcz0:=hcz S m w g
      have e:∀j,j<6→w6.cell? ⟨gg,o+12+j,none⟩=(Dl.cells ⟨zk,zn,ztr,ztx,zm,za,zlen,zcap⟩)[j]?:=fun j hj=>by
       have:=hcz0 j hj
       rw [g.cell hgg]at this
       rw [cell_of (q3 (mx4.up.le.I hgg))];exact this
      exact⟨e 0 (by omega),e 1 (by omega),e 2 (by omega),e 3 (by omega),e 4 (by omega),e 5 (by omega)⟩
    ·refine .inl ⟨_,rfl,bad ?_ w2 (hb1.trans (hb2.mono hb1.size))⟩
     cases d1 with
     |sym t k'=>
      have:=hnot t k' rfl
      obtain⟨kk,hkk⟩:=Option.isSome_iff_exists.1 this
      simp only [define,hkk]
     |list l=>exact absurd rfl (hnl l)
     |_=>rfl
  have list:∀(ts:List Dt),d1=.list ts→yk=4→Calls prog 233 #[bp X.xb,.slice (some ⟨gg,o,none⟩) (r.length+3) cap] w (TPost K X G S m w (define S f x (d1::d2::r))):=by
   intro ts hts hk4
   subst hts
   obtain rfl:yk=4:=hk4
   have trow:DRow G ya ylen ycap ts:=hy.row
   have htl:ylen=ts.length:=by obtain⟨es,h1,_⟩:=trow;exact h1
   have htn:ylen≤30000:=by obtain⟨es,h1,h2,h3,h4,h5,h6⟩:=trow;exact h5
   have htc:ylen≤ycap:=by obtain⟨es,h1,h2,h3,h4,h5,h6⟩:=trow;exact h4
   cases ts with
   |nil=>
    obtain rfl:ylen=0:=by simpa using htl
    exact qgp X.xb gg o r.length cap yn ytr ytx ym ya ycap w _ (cy 0 (by omega)) (cy 1 (by omega)) (cy 2 (by omega)) (cy 3 (by omega)) (cy 4 (by omega)) (cy 5 (by omega)) (by omega) (bad rfl)
   |cons nm ps=>
    have htl:ylen=ps.length+1:=by simpa using htl
    subst htl
    obtain⟨gt,ot,rfl,_,hct⟩:=trow.cells (by omega)
    obtain⟨u,hu,hcu⟩:=hct 0 nm rfl
    obtain⟨uk,un,utr,utx,um,ua,ulen,ucap⟩:=u
    have cu:=hcu S m w g
    have cu0:w.cell? ⟨gt,ot,none⟩=some (.int .i64 uk):=by have:=cu 0 (by omega);simpa using this
    have cu':∀j,j<6→w.cell? ⟨gt,ot+j,none⟩=(Dl.cells ⟨uk,un,utr,utx,um,ua,ulen,ucap⟩)[j]?:=fun j hj=>by have:=cu j hj;simpa using this
    have pdr:=trow.drop 1 (by omega)
    simp only [Nat.add_sub_cancel,List.drop_succ_cons,List.drop_zero]at pdr
    have pD:DRep G (.list ps) ⟨4,0,false,⟨#[]⟩,0,tlD gt ot ycap 1,ps.length,ycap-1⟩:=by
     obtain⟨es',q1,q2,q3,q4,q5,q6⟩:=pdr
     by_cases h0:0<ps.length
     ·obtain⟨g',o',arr,e1,e2,e3⟩:=q6 h0
      exact .list _ rfl ps es' g' o' arr q2 q4 q5 e1 e2 e3 q3
     ·have:ps=[]:=by cases ps with|nil=>rfl|cons=>simp at h0
      subst this
      exact .nil _ rfl rfl
    have hdr:=hrow.drop 2 (by simp)
    have hlr:(Dt.list (nm::ps)::d2::r).length+1-2=r.length+1:=by simp
    rw [hlr]at hdr
    have hdr:DRow G (tlD gg o cap 2) (r.length+1) (cap-2) (d2::r):=hdr
    have hmb2:membersL (d2::r)≤1000000000000:=by simp only [membersL,members]at hmb⊢;omega
    refine qfd X.xb G.mb gg o r.length cap gt ot ps.length yn ytr ytx ym ycap uk un utr utx um ua ulen ucap w _ (by omega) (by omega) htc (by omega) (cy 0 (by omega)) (cy 1 (by omega)) (cy 2 (by omega)) (cy 3 (by omega)) (cy 4 (by omega)) (cy 5 (by omega)) cu0 (cu' 1 (by omega)) (cu' 2 (by omega)) (cu' 3 (by omega)) (cu' 4 (by omega)) (cu' 5 (by omega)) fun w1 hw1=>?_
    have hb1:Below w.heap.size w w1:=bl1 hw1
    refine Calls.mono (qey (g.below hb1) (i.below hb1) hu) ?_
    rintro e' w2 (⟨t,k',rfl,hkw,htx,rfl,g2,i2,mx2⟩|⟨hnot,rfl,hb2⟩)
    ·have htx:t=utx.data.toList:=htx
     have hdef:define S f x (.list (.sym t k'::ps)::d2::r)=match lambda S f (x.drop t) [] (.list ps) (d2::r)with
       |(.error e,x)=>(.error e,x)
       |(.ok a,x)=>(.ok (.defG t a),x):=by simp only [define,hkw];rfl
     have mx02:Mx X G w X G w2:=(Mx.ofBelow hb1).trans mx2
     have hnew:w1.heap[w.heap.size]? =some (.cells (Dl.cells ⟨4,yn,ytr,ytx,ym,some ⟨gt,ot,none⟩,ps.length+1,ycap⟩) 134 (0,0)):=by rw [hw1.heap];exact heap_alloc_new _ _
     obtain⟨_,hk2⟩:=(LooseX.new g i (Nat.le_refl _)).mx mx2 (Array.getElem?_eq_some_iff.1 hnew).1
     refine .inr ⟨_,rfl,utx,rfl,i2.cell0 mx02 g2,by rw [hk2];exact hnew,fun w3 hb3=>?_⟩
     have hfne:(lambda S f (x.drop t) [] (.list ps) (d2::r)).1≠.error 0:=fun h=>by
      apply hne
      rw [hdef]
      cases hfr:lambda S f (x.drop t) [] (.list ps) (d2::r)with
      |mk fr fx=>rw [hfr]at h;have h:fr=.error 0:=h;subst h;rfl
     refine Calls.mono (hL X G m (x.drop t) [] w3 (.list ps) _ (d2::r) _ _ _ (g2.below hb3) (i2.below hb3) pD hdr hmb2 (by omega) (by simpa using hsc) hfne) ?_
     rintro e'' w4 (⟨vd,x',hv,rfl,hcn,hmt⟩|⟨Y,H,ex,x',v,hv,rfl,mx,g4,i4,hcr⟩)
     ·exact .inl ⟨_,rfl,.inl ⟨vd,x',by rw [hdef,hv],rfl,hcn,hmt⟩⟩
     ·have mx4:Mx X G w Y H w4:=(mx02.below hb3).trans mx
      obtain⟨kc,cc,rfl,_⟩:=hcr.isF
      have lo3:∀b,w2.heap.size≤b→LooseX X G b:=fun b hb=>LooseX.new g2 i2 hb
      refine .inr ⟨_,rfl,kc,cc,rfl,i4.cell0 mx4 g4,fun b h1 h2=>((lo3 b h1).mx mx h2).2,fun w5 hw5=>?_⟩
      have key:=def_mk (sh:=[]) (t:=utx) (Inv.lk hw5 g4) hcr
      rw [mx4.up.le.mb]at key
      refine Calls.mono key fun e6 w6 h6=>?_
      obtain⟨v6,rfl,q1,q2,q3,q4⟩:=qps (rv:=define S f x (.list (.sym t k'::ps)::d2::r)) (mx4.lk hw5) (i4.below (bl0 hw5)) h6 (by rw [hdef,hv,htx])
      refine .inr ⟨v6,rfl,q1,fun b h1 h2=>?_,q4⟩
      obtain⟨e1,e2⟩:=(lo3 b h1).mx mx h2
      rw [q2 b (by rw [hw5.heap];exact Nat.lt_of_lt_of_le h2 mx.size) e1,hw5.heap,e2]
    ·refine .inl ⟨_,rfl,bad ?_ w2 (hb1.trans (hb2.mono hb1.size))⟩
     cases nm with
     |sym t k'=>
      have:=hnot t k' rfl
      obtain⟨kk,hkk⟩:=Option.isSome_iff_exists.1 this
      simp only [define,hkk]
     |_=>rfl
  rcases hy.kind with⟨h3,rfl⟩|⟨h4,l,rfl⟩|⟨h3,h4,h5,h6⟩
  ·exact var (by have h:yk=3:=h3;omega) nofun
  ·exact list l rfl h4
  ·exact var h4 h6
end
end Go.Proofs.YtldaocpojcfljaaGreatDoor
