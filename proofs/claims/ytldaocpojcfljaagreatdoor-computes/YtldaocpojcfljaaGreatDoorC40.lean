import Derived.Test.YtldaocpojcfljaaGreatDoorC39
set_option maxRecDepth 100000
set_option maxHeartbeats 4000000
namespace Go.Proofs.YtldaocpojcfljaaGreatDoor
open Tryz hiding parts
open Go.RowKit Go.Shelf
section
open Sc
theorem top_mac {S:Sub} {f:Nat} {x:Xs} {t:Bs} {k:Int} {r:List Dt} {mc:Macro} (h:x.means (t,k) []=.mac mc):top S (f+1) x (.list (.sym t k::r))=match use S x mc r []with
  |(.error e,x)=>(.error e,x)
  |(.ok (d,x),_)=>top S f x d:=by
 simp only [top,h];rfl
theorem qkd (S:Sub):∀(f:Nat) (x:Xs) (d:Dt),(top S f x d).1≠.error 0→members d≤1000000000000→
  (∃j x' d',rewr S f x [] d=(.ok d',x')∧j+1≤f∧top S f x d=top S (j+1) x' d'∧(leadN x' [] d').1≠2∧members d'≤1000000000000)∨(∃vd x',rewr S f x [] d=(.error vd,x')∧top S f x d=(.error vd,x'))
 |0,x,d,h,_=>absurd rfl h
 |f+1,x,d,h,hm=>by
  by_cases h2:(leadN x [] d).1=2
  ·obtain⟨t,k,r,mc,rfl,hmeans,_,_⟩:=qgg h2
   have e1:rewr S (f+1) x [] (.list (.sym t k::r))=match use S x mc r []with
     |(.error e,x)=>(.error e,x)
     |(.ok (d,x),_)=>rewr S f x [] d:=by simp only [rewr,hmeans];rfl
   rw [top_mac hmeans]at h⊢
   rw [e1]
   cases hu:use S x mc r []with
   |mk ur ux=>
    rw [hu]at h
    cases ur with
    |error e=>exact .inr ⟨e,ux,rfl,rfl⟩
    |ok p=>
     obtain⟨d1,x1⟩:=p
     simp only at h⊢
     have hp:=qg2 hu
     rw [qb9]at hp
     rcases qkd S f x1 d1 h (by omega)with⟨j,x',d',q1,q2,q3,q4,q5⟩|q
     ·exact .inl ⟨j,x',d',q1,by omega,q3,q4,q5⟩
     ·exact .inr q
  ·exact .inl ⟨f,x,d,qeq h2,Nat.le_refl _,rfl,h2,hm⟩
def SimSyn (K:Rl) (S:Sub):Prop:=∀(X:Xe) (G:Gh) (m:Mc) (x:Xs) (w:World) (t0:Bs) (k:Int) (r:List Dt) (a:Option Addr) (len cap:Nat),AtD K X G S m x w t0 k r a len cap→Calls prog 234 #[bp X.xb,.slice a len cap] w (RetP (fun v w2=>v=.tuple #[]∧∃Y H x',syntaxF x r=(.ok .skip,x')∧Mx X G w Y H w2∧Inv H S m w2∧XInv K Y H S x' [] w2) (TPost K X G S m w (syntaxF x r)))
def isSyn (d:Dt):Prop:=∃k r,d=.list (.sym [100,101,102,105,110,101,45,115,121,110,116,97,120] k::r)
theorem top_of {K:Rl} {S:Sub} (hR:SimRewr K S) (hS:SimSyn K S∨∀(X:Xe) (G:Gh) (w:World) (x:Xs) (F:Nat) (d d':Dt) (x':Xs),XInv K X G S x [] w→rewr S F x [] d=(.ok d',x')→¬isSyn d→¬isSyn d') {f:Nat} (X:Xe) (G:Gh) (m:Mc) (x:Xs) (w:World) (d:Dt) (e:Dl) (g:Inv G S m w) (i:XInv K X G S x [] w) (hd:DRep G d e) (hmb:members d≤1000000000000) (hsc:f≤1000000000) (hne:(top S f x d).1≠.error 0) (hns:SimSyn K S∨¬isSyn d):
  Calls prog 144 #[bp X.xb,.agg e.cells] w (TPost K X G S m w (top S f x d)):=by
 have hrf:=qkd S f x d hne hmb
 obtain⟨xk,xn,xtr,xtx,xm,xa,xlen,xcap⟩:=e
 refine qo9 X.xb xk xn xtr xtx xm xa xlen xcap w _ fun w1 hw1=>?_
 have hb1:Below w.heap.size w w1:=bl1 hw1
 have hrne:(rewr S f x [] d).1≠.error 0:=by
  rcases hrf with⟨j,x',d',h1,_⟩|⟨vd,x',h1,h2⟩
  ·rw [h1];exact nofun
  ·rw [h2]at hne;rw [h1];exact fun h=>hne (by cases h;rfl)
 refine Calls.mono (hR X G m x [] w1 d _ f (g.below hb1) (i.below hb1) hd hrne) ?_
 rintro e' w2 (⟨H,d',x',e2,hrv,rfl,mx,g2,i2,hd2⟩|⟨vd,x',hrv,rfl,hc,hmt⟩)
 ·rcases hrf with⟨j,x1,d1,h1,hj,htop,hlead,hmem⟩|⟨vd,x1,h1,h2⟩
  ·have hns':SimSyn K S∨¬isSyn d1:=by
    rcases hns with h|h
    ·exact .inl h
    ·rcases hS with h'|h'
     ·exact .inl h'
     ·exact .inr (h' X G w x f d d1 x1 i h1 h)
   rw [h1]at hrv
   obtain⟨rfl,rfl⟩:d1=d'∧x1=x':=by simpa using hrv
   rw [htop]at hne⊢
   have hbox:=(qgs (e2:=e2) g i hw1 mx g2 i2 ⟨rfl,rfl,rfl,rfl⟩).1
   refine .inr ⟨_,rfl,e2,rfl,hbox,fun W hW=>?_⟩
   obtain⟨_,gW,iW,mxW⟩:=qgs g i hw1 mx g2 i2 hW
   refine Calls.mono (qer gW iW hd2) ?_
   rintro e3 w3 ⟨rfl,hb3⟩
   refine⟨_,rfl,hb3,?_⟩
   have g3:=gW.below hb3
   have i3:=iW.below hb3
   have mx3:=mxW.below hb3
   obtain⟨hF,_,hL⟩:=all_of hR (j+1)
   have other:kwN x1 [] d1≠[100,101,102,105,110,101]→kwN x1 [] d1≠[100,101,102,105,110,101,45,115,121,110,116,97,120]→top S (j+1) x1 d1=form S (j+1) x1 [] d1→
     ((⟨(kwN x1 [] d1).toArray⟩:ByteArray).toList== [100,101,102,105,110,101])=false∧((⟨(kwN x1 [] d1).toArray⟩:ByteArray).toList== [100,101,102,105,110,101,45,115,121,110,116,97,120])=false∧∀w4,Lk w3 w4→Calls prog 236 #[bp X.xb,.agg e2.cells] w4 (RQ (TPost K X G S m w (top S (j+1) x1 d1))):=by
    intro n1 n2 hf
    refine⟨by rw [qa9];simpa using n1,by rw [qa9];simpa using n2,fun w4 hw4=>?_⟩
    rw [hf]at hne⊢
    refine Calls.mono (hF X H m x1 [] w4 d1 e2 (Inv.lk hw4 g3) (i3.below (bl0 hw4)) hd2 hmem (by simp;omega) hne) ?_
    intro e6 w6 h6
    have h7:=TPost.from (mx3.lk hw4) (TPost.of h6)
    exact RQ.of h7 h7.ends
   cases d1 with
   |num v=>exact .inr (.inr (other nofun nofun rfl))
   |bool v=>exact .inr (.inr (other nofun nofun rfl))
   |str v=>exact .inr (.inr (other nofun nofun rfl))
   |sym t k=>exact .inr (.inr (other nofun nofun rfl))
   |list l=>
    cases l with
    |nil=>exact .inr (.inr (other nofun nofun rfl))
    |cons d0 r=>
     cases d0 with
     |num v=>exact .inr (.inr (other nofun nofun rfl))
     |bool v=>exact .inr (.inr (other nofun nofun rfl))
     |str v=>exact .inr (.inr (other nofun nofun rfl))
     |list v=>exact .inr (.inr (other nofun nofun rfl))
     |sym t k=>
      have mbr:membersL r≤1000000000000:=by simp only [members,membersL]at hmem;omega
      rcases qfo hlead with⟨hm,hkw⟩|⟨kk,hk,hm,hkw⟩
      ·exact .inr (.inr (other (by rw [hkw];exact nofun) (by rw [hkw];exact nofun) (by simp only [top,hm])))
      ·rcases qko hk with⟨rfl,rfl⟩|⟨rfl,rfl⟩|⟨rfl,rfl⟩|⟨rfl,rfl⟩|⟨rfl,rfl⟩|⟨rfl,rfl⟩|⟨rfl,rfl⟩|⟨rfl,rfl⟩
       ·exact .inr (.inr (other (by rw [hkw];decide) (by rw [hkw];decide) (by simp only [top,hm])))
       ·exact .inr (.inr (other (by rw [hkw];decide) (by rw [hkw];decide) (by simp only [top,hm])))
       ·refine .inl ⟨by rw [hkw],fun w4 hw4=>?_⟩
        have ht:top S (j+1) x1 (.list (.sym [100,101,102,105,110,101] k::r))=define S j x1 r:=by simp only [top,hm]
        rw [ht]at hne⊢
        obtain⟨hF',_,hL'⟩:=all_of hR j
        refine Calls.mono (qjr hF' hL' X H m x1 w4 _ k r e2.a e2.len e2.cap ⟨Inv.lk hw4 g3,i3.below (bl0 hw4),hd2.row,mbr⟩ (by omega) hne) ?_
        intro e6 w6 h6
        have h7:=TPost.from (mx3.lk hw4) h6
        exact RQ.of h7 h7.ends
       ·exact .inr (.inr (other (by rw [hkw];decide) (by rw [hkw];decide) (by simp only [top,hm])))
       ·exact .inr (.inr (other (by rw [hkw];decide) (by rw [hkw];decide) (by simp only [top,hm])))
       ·exact .inr (.inr (other (by rw [hkw];decide) (by rw [hkw];decide) (by simp only [top,hm])))
       ·exact .inr (.inr (other (by rw [hkw];decide) (by rw [hkw];decide) (by simp only [top,hm])))
       ·refine .inr (.inl ⟨by rw [hkw],fun w4 hw4=>?_⟩)
        have ht:top S (j+1) x1 (.list (.sym [100,101,102,105,110,101,45,115,121,110,116,97,120] k::r))=syntaxF x1 r:=by simp only [top,hm]
        rw [ht]
        rcases hns' with hs|hs
        ·refine Calls.mono (hs X H m x1 w4 _ k r e2.a e2.len e2.cap ⟨Inv.lk hw4 g3,i3.below (bl0 hw4),hd2.row,mbr⟩) ?_
         intro e6 w6 h6
         refine h6.imp ?_ ?_
         ·rintro v w7 ⟨rfl,Y,L,x9,q1,q2,q3,q4⟩
          exact⟨rfl,.inr ⟨Y,L,.skip,x9,_,q1,rfl,(mx3.lk hw4).trans q2,q3,q4,.inl ⟨rfl,rfl⟩⟩⟩
         ·intro ps w7 h7
          exact TPost.from (mx3.lk hw4) h7
        ·exact absurd ⟨k,r,rfl⟩ hs
  ·rw [h1]at hrv;simp at hrv
 ·rcases hrf with⟨j,x1,d1,h1,_⟩|⟨vd1,x1,h1,h2⟩
  ·rw [h1]at hrv;simp at hrv
  ·rw [h1]at hrv
   obtain⟨rfl,rfl⟩:vd1=vd∧x1=x':=by simpa using hrv
   exact .inl ⟨_,rfl,.inl ⟨vd1,x1,h2,rfl,hc,hmt⟩⟩
end
section
open Sc
theorem qaq {n:Nat} {w w':World} {b k:Nat} {v:Value} (h:Below n w w') (hb:n≤b):Below n w (w'.setCell ⟨b,k,none⟩ v):=
 ⟨h.os,h.tape,h.output,by rw [qaf];exact h.size,fun c hc=>by rw [qaa (a:=⟨b,k,none⟩) c (by show c≠b;omega)];exact h.block c hc⟩
theorem qm3 {n:Nat} {w w':World} {b:Nat} {v0 v1 v2 v3 v4 v5:Value} (h:Below n w w') (hb:n≤b):Below n w (set6 w' b v0 v1 v2 v3 v4 v5):=qaq (qaq (qaq (qaq (qaq (qaq h hb) hb) hb) hb) hb) hb
theorem qlm (xb:Nat) (yk yn:Int) (ytr:Bool) (ytx:ByteArray) (ym:Int) (ya:Option Addr) (ylen ycap:Nat) (mn:Int) (s:ByteArray) (w:World) (hmn:mn≠2)
  (hL:∀w',Below w.heap.size w w'→Calls prog 288 #[bp xb,.agg (Dl.cells ⟨yk,yn,ytr,ytx,ym,ya,ylen,ycap⟩)] w' fun e w2=>e=.returned (.tuple #[.int .i64 mn,.string s])∧Below w'.heap.size w' w2):
  Calls prog 231 #[bp xb,.agg (Dl.cells ⟨yk,yn,ytr,ytx,ym,ya,ylen,ycap⟩)] w fun e w'=>e=.returned (.agg (Dl.cells ⟨yk,yn,ytr,ytx,ym,ya,ylen,ycap⟩))∧Below w.heap.size w w':=by
 have HL:=hZ hL
 have e2:(mn==2)=false:=by simpa using hmn
 have e3:(mn !=2)=true:=by simpa using hmn
 clear hL hmn
 go_enter func231,ntmps231
 go_wp2
 go_loopw [] (fun wr=>wr=(w.alloc (.cells (Dl.cells ⟨yk,yn,ytr,ytx,ym,ya,ylen,ycap⟩) 134)).alloc (.cells #[.int .i64 0,.int .i64 0,.bool false,.string ⟨#[]⟩,.int .i64 0,.slice none 0 0] 134)) (fun _=>0)
 case atStart=>rfl
 case round=>
  have hrs:wr.heap[w.heap.size+1]? =some (.cells #[.int .i64 0,.int .i64 0,.bool false,.string ⟨#[]⟩,.int .i64 0,.slice none 0 0] 134 (0,0)):=by
   have:=heap_alloc_new (w.alloc (.cells (Dl.cells ⟨yk,yn,ytr,ytx,ym,ya,ylen,ycap⟩) 134)) (.cells #[.int .i64 0,.int .i64 0,.bool false,.string ⟨#[]⟩,.int .i64 0,.slice none 0 0] 134)
   rw [hrel];simpa using this
  have hbx:wr.heap[w.heap.size]? =some (.cells (Dl.cells ⟨yk,yn,ytr,ytx,ym,ya,ylen,ycap⟩) 134 (0,0)):=by
   rw [hrel,Below.heap_alloc _ _ _ (by simp)];exact heap_alloc_new _ _
  have hbw:Below w.heap.size w wr:=by rw [hrel];exact(qab _ _).alloc (by simp) _
  clear hrel
  have x0:wr.cell? ⟨w.heap.size,0,none⟩=some (.int .i64 yk):=by simp only [World.cell?,hbx];rfl
  have x1:wr.cell? ⟨w.heap.size,1,none⟩=some (.int .i64 yn):=by simp only [World.cell?,hbx];rfl
  have x2:wr.cell? ⟨w.heap.size,2,none⟩=some (.bool ytr):=by simp only [World.cell?,hbx];rfl
  have x3:wr.cell? ⟨w.heap.size,3,none⟩=some (.string ytx):=by simp only [World.cell?,hbx];rfl
  have x4:wr.cell? ⟨w.heap.size,4,none⟩=some (.int .i64 ym):=by simp only [World.cell?,hbx];rfl
  have x5:wr.cell? ⟨w.heap.size,5,none⟩=some (.slice ya ylen ycap):=by simp only [World.cell?,hbx];rfl
  have HBW:=hZ hbw
  have HBx:=hZ hbx
  have HRs:=hZ hrs
  clear hbw hbx hrs
  go_wp2_with (go_at_call 288;refine(HL.out _ HBW.out).mono ?_;rintro e w2 ⟨rfl,hb⟩;refine Hid.out ?_)
  have hbx2:=(hb.block _ (Array.getElem?_eq_some_iff.1 HBx.out).1).trans HBx.out
  have hrs2:=(hb.block _ (Array.getElem?_eq_some_iff.1 HRs.out).1).trans HRs.out
  have b0:w2.cell? ⟨w.heap.size,0,none⟩=some (.int .i64 yk):=by simp only [World.cell?,hbx2];rfl
  have b1:w2.cell? ⟨w.heap.size,1,none⟩=some (.int .i64 yn):=by simp only [World.cell?,hbx2];rfl
  have b2:w2.cell? ⟨w.heap.size,2,none⟩=some (.bool ytr):=by simp only [World.cell?,hbx2];rfl
  have b3:w2.cell? ⟨w.heap.size,3,none⟩=some (.string ytx):=by simp only [World.cell?,hbx2];rfl
  have b4:w2.cell? ⟨w.heap.size,4,none⟩=some (.int .i64 ym):=by simp only [World.cell?,hbx2];rfl
  have b5:w2.cell? ⟨w.heap.size,5,none⟩=some (.slice ya ylen ycap):=by simp only [World.cell?,hbx2];rfl
  have r0:w2.cell? ⟨w.heap.size+1,0,none⟩=some (.int .i64 0):=by simp only [World.cell?,hrs2];rfl
  have r1:w2.cell? ⟨w.heap.size+1,1,none⟩=some (.int .i64 0):=by simp only [World.cell?,hrs2];rfl
  have r2:w2.cell? ⟨w.heap.size+1,2,none⟩=some (.bool false):=by simp only [World.cell?,hrs2];rfl
  have r3:w2.cell? ⟨w.heap.size+1,3,none⟩=some (.string ⟨#[]⟩):=by simp only [World.cell?,hrs2];rfl
  have r4:w2.cell? ⟨w.heap.size+1,4,none⟩=some (.int .i64 0):=by simp only [World.cell?,hrs2];rfl
  have r5:w2.cell? ⟨w.heap.size+1,5,none⟩=some (.slice none 0 0):=by simp only [World.cell?,hrs2];rfl
  have rf:∀o,w2.frozen? ⟨w.heap.size+1,o,none⟩=false:=fun o=>by simp [World.frozen?,hrs2]
  have HB2:Hid (Below w.heap.size w w2):=HBW.out.trans (hb.mono HBW.out.size)
  have hs6:=qed (v0:=.int .i64 yk) (v1:=.int .i64 yn) (v2:=.bool ytr) (v3:=.string ytx) (v4:=.int .i64 ym) (v5:=.slice ya ylen ycap) hrs2
  have s0:(set6 w2 (w.heap.size+1) (.int .i64 yk) (.int .i64 yn) (.bool ytr) (.string ytx) (.int .i64 ym) (.slice ya ylen ycap)).cell? ⟨w.heap.size+1,0,none⟩=some (.int .i64 yk):=by simp only [World.cell?,hs6];rfl
  have s1:(set6 w2 (w.heap.size+1) (.int .i64 yk) (.int .i64 yn) (.bool ytr) (.string ytx) (.int .i64 ym) (.slice ya ylen ycap)).cell? ⟨w.heap.size+1,1,none⟩=some (.int .i64 yn):=by simp only [World.cell?,hs6];rfl
  have s2:(set6 w2 (w.heap.size+1) (.int .i64 yk) (.int .i64 yn) (.bool ytr) (.string ytx) (.int .i64 ym) (.slice ya ylen ycap)).cell? ⟨w.heap.size+1,2,none⟩=some (.bool ytr):=by simp only [World.cell?,hs6];rfl
  have s3:(set6 w2 (w.heap.size+1) (.int .i64 yk) (.int .i64 yn) (.bool ytr) (.string ytx) (.int .i64 ym) (.slice ya ylen ycap)).cell? ⟨w.heap.size+1,3,none⟩=some (.string ytx):=by simp only [World.cell?,hs6];rfl
  have s4:(set6 w2 (w.heap.size+1) (.int .i64 yk) (.int .i64 yn) (.bool ytr) (.string ytx) (.int .i64 ym) (.slice ya ylen ycap)).cell? ⟨w.heap.size+1,4,none⟩=some (.int .i64 ym):=by simp only [World.cell?,hs6];rfl
  have s5:(set6 w2 (w.heap.size+1) (.int .i64 yk) (.int .i64 yn) (.bool ytr) (.string ytx) (.int .i64 ym) (.slice ya ylen ycap)).cell? ⟨w.heap.size+1,5,none⟩=some (.slice ya ylen ycap):=by simp only [World.cell?,hs6];rfl
  have hz6:w.heap.size≤w.heap.size+1:=Nat.le_succ _
  have HFin:Hid (Below w.heap.size w (set6 w2 (w.heap.size+1) (.int .i64 yk) (.int .i64 yn) (.bool ytr) (.string ytx) (.int .i64 ym) (.slice ya ylen ycap))):=qm3 HB2.out hz6
  clear hb hbx2 hrs2 HBx HRs HL hs6 x0 x1 x2 x3 x4 x5 HB2 HBW
  refine hZ ?_
  go_wp2
  unfold set6 at s0 s1 s2 s3 s4 s5 HFin
  generalize (((((w2.setCell ⟨w.heap.size+1,0,none⟩ (.int .i64 yk)).setCell ⟨w.heap.size+1,1,none⟩ (.int .i64 yn)).setCell ⟨w.heap.size+1,2,none⟩ (.bool ytr)).setCell ⟨w.heap.size+1,3,none⟩ (.string ytx)).setCell ⟨w.heap.size+1,4,none⟩ (.int .i64 ym)).setCell ⟨w.heap.size+1,5,none⟩ (.slice ya ylen ycap)=W at s0 s1 s2 s3 s4 s5 HFin⊢
  clear b0 b1 b2 b3 b4 b5 r0 r1 r2 r3 r4 r5 rf e2 e3
  refine bodyPost_ret (v:=.agg #[.int .i64 yk,.int .i64 yn,.bool ytr,.string ytx,.int .i64 ym,.slice ya ylen ycap]) (by simp [results,results231,go_sem, *]) rfl ?_
  exact⟨rfl,HFin.out⟩
def K0:Rl:=⟨fun _ _ _=>False,fun _ h=>h⟩
theorem mc0 {G:Gh} {ms:List Macro} {L:List (Bs×Value)} (h:McRows K0.R G ms L):ms=[]:=by
 cases h with
 |nil=>rfl
 |cons _ _ _ _ h=>exact absurd h id
theorem lead0 {x:Xs} {sc:Scope} {d:Dt} (h:x.macros=[]):(leadN x sc d).1≠2:=fun h2=>by
 obtain⟨t,k,r,mc,_,_,hm,_⟩:=qgg h2
 simp [Xs.mcr,h]at hm
theorem rewr0 {S:Sub} {x:Xs} {sc:Scope} {d:Dt} {F:Nat} (h:x.macros=[]) (hne:(rewr S F x sc d).1≠.error 0):rewr S F x sc d=(.ok d,x):=by
 cases F with
 |zero=>exact absurd rfl hne
 |succ F=>exact qeq (lead0 h)
theorem qra (S:Sub):SimRewr K0 S:=by
 intro X G m x sc w d e F g i hd hne
 obtain⟨es,clock,M,hm1,hm2,hm3⟩:=i.mc
 have h0:=mc0 hm3
 rw [rewr0 h0 hne]
 obtain⟨yk,yn,ytr,ytx,ym,ya,ylen,ycap⟩:=e
 refine Calls.mono (qlm X.xb yk yn ytr ytx ym ya ylen ycap (leadN x sc d).1 ⟨(leadN x sc d).2.toArray⟩ w (lead0 h0) fun w' hb=>qkm (g.below hb) (i.below hb) hd) ?_
 rintro e' w' ⟨rfl,hb⟩
 exact .inl ⟨G,d,x,_,rfl,rfl,Mx.ofBelow hb,g.below hb,i.below hb,hd⟩
end
section
open Sc
mutual
def wt:Dt→Nat
 | .num _=>1
 | .bool _=>1
 | .str t=>t.length+1
 | .sym t _=>t.length+1
 | .list l=>1+wtL l
def wtL:List Dt→Nat
 | []=>0
 |d::r=>wt d+wtL r
end
theorem qm7 (a b:List Dt):wtL (a++b)=wtL a+wtL b:=by
 induction a with
 |nil=>simp [wtL]
 |cons d r ih=>simp only [List.cons_append,wtL,ih];omega
theorem tw_len (P:UInt8→Bool) (l:List UInt8):(l.takeWhile P).length+(l.dropWhile P).length=l.length:=by
 rw [←List.length_append,List.takeWhile_append_dropWhile]
theorem qf4 (b:Bool) (l:List UInt8):(Px.skip b l).length≤l.length:=(Px.skip_suf l b).length_le
def WtOk (l:List UInt8) (r:Py.R):Prop:=∀xs rr,r=.inr (xs,rr)→wtL xs+10*rr.length≤10*l.length
theorem qdf (l:List UInt8) (t:Dt) (r:List UInt8) (h:wt t+10*r.length≤10*l.length):WtOk l (Py.closed t r):=by
 intro xs rr e
 unfold Py.closed at e
 split at e
 ·cases e;simpa [wtL]using h
 ·split at e
  ·cases e;simpa [wtL]using h
  ·cases e
theorem word_wt (c:UInt8) (r:List UInt8) (h:Px.wordB c=true):WtOk (c::r) (Py.word (c::r)):=by
 have hl:=tw_len Px.wordB (c::r)
 have h1:1≤((c::r).takeWhile Px.wordB).length:=by simp [List.takeWhile,h]
 unfold Py.word
 generalize (c::r).takeWhile Px.wordB=a at hl h1
 generalize (c::r).dropWhile Px.wordB=b at hl
 intro xs rr e
 unfold Py.wordOf at e
 split at e
 ·split at e
  ·exact qdf (c::r) _ b (by simp only [wt];omega) xs rr e
  ·cases e
 ·split at e
  ·cases e
  ·exact qdf (c::r) _ b (by simp only [wt];omega) xs rr e
theorem str_wt (c:UInt8) (r:List UInt8):WtOk (c::r) (Py.str r):=by
 have hl:=tw_len Px.strB r
 intro xs rr e
 unfold Py.str at e
 split at e
 ·cases e
 ·rename_i c' r' hd
  split at e
  ·cases e
   rw [hd]at hl
   simp only [List.length_cons,wtL,wt]at hl⊢
   omega
  ·cases e
theorem qqp (c:UInt8) (r:List UInt8):WtOk (c::r) (Py.truth r):=by
 intro xs rr e
 unfold Py.truth at e
 split at e
 ·cases e
 ·rename_i c' r'
  split at e
  ·exact qdf _ _ r' (by simp only [wt,List.length_cons];omega) xs rr e
  ·split at e
   ·exact qdf _ _ r' (by simp only [wt,List.length_cons];omega) xs rr e
   ·cases e
theorem qn6:∀(f:Nat) (b:Bool) (d:Nat) (l:List UInt8),WtOk l (Py.rd f b d l)
 |0,_,_,_=>fun xs rr e=>by simp [Py.rd]at e
 |f+1,true,d,l=>fun xs rr e=>by
  have hs:=qf4 false l
  rw [Py.rd]at e
  split at e
  ·cases e
  ·rename_i c r hsk
   rw [hsk]at hs
   split at e
   ·cases e;simp only [wtL,List.length_cons]at hs⊢;omega
   ·split at e
    ·cases e
    ·rename_i x r1 h1
     split at e
     ·cases e
     ·rename_i ys r2 h2
      cases e
      have a:=qn6 f false d (c::r) x r1 h1
      have b:=qn6 f true d r1 ys rr h2
      rw [qm7]
      omega
 |f+1,false,d,l=>fun xs rr e=>by
  have hs:=qf4 false l
  rw [Py.rd]at e
  split at e
  ·cases e
  ·rename_i c r hsk
   rw [hsk]at hs
   simp only [List.length_cons]at hs
   split at e
   ·split at e
    ·cases e
    ·split at e
     ·cases e
     ·rename_i ys r1 h1
      cases e
      have a:=qn6 f true (d+1) r ys rr h1
      simp only [wtL,wt]
      omega
   ·split at e
    ·split at e
     ·cases e
     ·split at e
      ·cases e
      ·rename_i ys r1 h1
       cases e
       have a:=qn6 f false (d+1) r ys rr h1
       have hq:Px.quoteT.length=5:=rfl
       simp only [wtL,wt,hq]
       omega
    ·split at e
     ·have:=str_wt c r xs rr e;simp only [List.length_cons]at this;omega
     ·split at e
      ·have:=qqp c r xs rr e;simp only [List.length_cons]at this;omega
      ·split at e
       ·rename_i hw
        have:=word_wt c r hw xs rr e;simp only [List.length_cons]at this;omega
       ·cases e
theorem topP_wt:∀(f:Nat) (l:List UInt8) (xs:List (Dt×Nat)) (rr:List UInt8),Py.topP f l=.inr (xs,rr)→wtL (xs.map (·.1))+10*rr.length≤10*l.length:=by
 intro f l xs rr h
 have ht:=Py.topP_top f l
 rw [h]at ht
 have key:∀(f:Nat) (l:List UInt8),WtOk l (Py.top f l):=by
  intro f
  induction f with
  |zero=>intro l xs rr e;simp [Py.top]at e
  |succ f ih=>
   intro l xs rr e
   have hs:=qf4 false l
   rw [Py.top]at e
   split at e
   ·cases e;simp [wtL]
   ·rename_i c r hsk
    rw [hsk]at hs
    split at e
    ·cases e
    ·rename_i x r1 h1
     split at e
     ·cases e
     ·rename_i ys r2 h2
      cases e
      have a:=qn6 f false 0 (c::r) x r1 h1
      have b:=ih r1 ys rr h2
      rw [qm7]
      omega
 exact key f l _ _ ht
mutual
theorem qfm:∀d:Dt,members d+1≤wt d
 | .num _=>by simp [members,wt]
 | .bool _=>by simp [members,wt]
 | .str _=>by simp [members,wt]
 | .sym _ _=>by simp [members,wt]
 | .list l=>by have:=qel l;simp only [members,wt];omega
theorem qel:∀l:List Dt,membersL l≤wtL l
 | []=>by simp [membersL]
 |d::r=>by have:=qfm d;have:=qel r;simp only [membersL,wtL];omega
end
theorem wt_mem {l:List Dt} {d:Dt} (h:d∈l):wt d≤wtL l:=by
 induction l with
 |nil=>simp at h
 |cons a r ih=>
  simp only [wtL]
  rcases List.mem_cons.1 h with rfl|h
  ·omega
  ·have:=ih h;omega
theorem wt_pos (d:Dt):1≤wt d:=by cases d <;> simp [wt]
theorem wtL_len (l:List Dt):l.length≤wtL l:=by
 induction l with
 |nil=>simp
 |cons a r ih=>have:=wt_pos a;simp only [List.length_cons,wtL];omega
abbrev dlOf (e:Rd.El):Dl:=⟨e.k,e.n,e.tr,e.tx,e.m,e.a,e.len,e.cap⟩
theorem qkw {G:Gh}:∀(es:List Rd.El) (ts:List Dt),es.length=ts.length→(∀(i:Nat) (x:Rd.El) (u:Dt),es[i]? =some x→ts[i]? =some u→DRep G u (dlOf x))→DsRep G ts (es.map dlOf)
 | [],[],_,_=>.nil
 | [],_::_,h,_=>by simp at h
 |_::_,[],h,_=>by simp at h
 |e::es,t::ts,h,ha=>.cons _ _ _ _ (ha 0 e t rfl rfl) (qkw es ts (by simpa using h) fun i x u h1 h2=>ha (i+1) x u (by simpa using h1) (by simpa using h2))
theorem qms (l:List Rd.El) (i j:Nat) (x:Rd.El) (h:l[i]? =some x) (hj:j<6):(l.flatMap Rd.El.cells)[i*6+j]? =(dlOf x).cells[j]?:=by
 have e:l.flatMap Rd.El.cells=dlCells (l.map dlOf):=by
  unfold dlCells
  rw [List.flatMap_map]
  rfl
 rw [e]
 exact qfu (l.map dlOf) i j (dlOf x) (by simp [h]) hj
theorem qke {lo:Nat} {w:World} {G:Gh} (hI:∀(g:Nat) (arr:Array Value),lo≤g→w.heap[g]? =some (.cells arr 134 (0,0))→G.I g=some (.cells arr 134 (0,0))):∀{m:Nat} {e:Rd.El} {t:Dt},Rd.Rep lo Rd.NoB w m e t→wt t≤20000→DRep G t (dlOf e)
 |0,_,_,h,_=>False.elim h
 |m+1,e,t,h,hw=>by
  rcases h with⟨h0,rfl,h1,h2,h3,h4,h5⟩|⟨h0,rfl,h3,h4,h5⟩|⟨h0,rfl,h3,h4,h5⟩|⟨h0,rfl,h3⟩|⟨h0,es,ts,rfl,hl,hrow,hall⟩
  ·exact .num (dlOf e) h0 h1 h2 ⟨h3,h4,h5⟩
  ·exact .bool (dlOf e) h0 ⟨h3,h4,h5⟩
  ·refine .str (dlOf e) h0 ?_ ⟨h3,h4,h5⟩
   simp only [wt]at hw
   have:e.tx.data.toList.length=e.tx.size:=by rw [Array.length_toList];rfl
   show e.tx.size≤1000000000
   omega
  ·refine .sym (dlOf e) h0 ?_ h3
   simp only [wt]at hw
   have:e.tx.data.toList.length=e.tx.size:=by rw [Array.length_toList];rfl
   show e.tx.size≤1000000000
   omega
  ·have hwl:wtL ts≤20000:=by simp only [wt]at hw;omega
   have hlen:=wtL_len ts
   have hd:=qkw (G:=G) es ts hl fun i x u h1 h2=>qke hI (hall i x u h1 h2) (Nat.le_trans (wt_mem (List.mem_of_getElem? h2)) hwl)
   have hel:=hrow.len
   rcases hrow.owns.2 with⟨hv,h00⟩|⟨g,cap,cur,hv,hb,hg,hn,hm,hsz,htk⟩
   ·have:ts=[]:=by cases ts with|nil=>rfl|cons=>simp at hl;omega
    subst this
    exact .nil (dlOf e) h0 h00
   ·have hsl:e.a=some ⟨g,0,none⟩∧e.cap=cap:=by
     simp only [Rd.El.sl]at hv
     exact⟨by injection hv,by injection hv⟩
    refine .list (dlOf e) h0 ts (es.map dlOf) g 0 cur (by simp [hel]) (by show e.len≤e.cap;rw [hsl.2];exact hn) (by show e.len≤30000;omega) hsl.1 (hI g cur hb hg) (fun i j x hx hj=>?_) hd
    rw [List.getElem?_map]at hx
    obtain⟨y,hy,rfl⟩:=Option.map_eq_some_iff.1 hx
    have:=qms es i j y hy hj
    rw [←htk,List.getElem?_take]at this
    rw [Nat.zero_add]
    split at this
    ·simpa using this
    ·have hlt:j<(dlOf y).cells.size:=hj
     rw [Array.getElem?_eq_getElem hlt]at this;cases this
end
section
open Sc
theorem qmi (G:Gh) (S:Sub) (m:Mc) (w:World) (t:ByteArray) (i:Inv G S m w) (hb:lookB t.data.toList G.B=none):
  Calls prog 227 #[bp G.mb,.string t] w fun e w'=>e=.returned (bp w.heap.size)∧Mv G w (G.glob t.data.toList w.heap.size) w'∧Inv (G.glob t.data.toList w.heap.size) S m w'∧w'.heap.size=w.heap.size+1:=by
 obtain⟨es,clock,hmp,hB⟩:=i.mp
 have c2:=i.mb2
 have hl:=qdl G.mp es clock G.B t w hmp hB
 rw [hb]at hl
 have hl:(Instr.lookup 114 (.map (some G.mp)) (.string t) false).run prog w=.ok (.pointer none) w:=hl
 have hmpl:G.mp<w.heap.size:=(Array.getElem?_eq_some_iff.1 hmp).1
 have hu:=qcb G.mp w.heap.size es clock G.B t (w.alloc (.cells #[.nilIface] 318)) (by rw [Below.heap_alloc _ _ _ hmpl];exact hmp) hB hb
 have k2:(w.alloc (.cells #[.nilIface] 318)).cell? ⟨G.mb,2,none⟩=some (.map (some G.mp)):=(qad (qac c2) _).trans c2
 have HI:=hZ i
 have HB:=hZ hB
 have HN:=hZ (qcr hb)
 have HM:=hZ hmp
 clear i hB hb hmp
 go_enter func227,ntmps227
 go_wp2
 go_ret
 have i1:=HI.out.below ((Below.refl _ _).alloc (Nat.le_refl _) (.cells #[.nilIface] 318))
 refine⟨rfl,⟨G.up_glob _ _,fun _=>rfl,fun {b} hb=>?_,fun {c} hcl hc=>?_,by simp⟩,i1.newGlob HN.out (heap_alloc_new _ _) (fun h=>by have:=HI.out.ml h;omega) (HI.out.fresh (Nat.le_refl _)) (fun h=>by have:=(HI.out.ff h).2;omega) ?_ (by simp) ⟨rfl,rfl,rfl⟩ ⟨es.push ⟨.string t,bp w.heap.size,clock⟩,clock+1,?_,?_⟩,by simp⟩
 ·simp only [Gh.mut,Gh.glob,Gh.rows,List.mem_cons,List.mem_append,List.map_append,List.map_cons,List.map_nil,List.not_mem_nil,or_false]at hb⊢
  rcases hb with h|h|h|h|(h|h)|h
  ·exact .inl (.inl h)
  ·exact .inl (.inr (.inl h))
  ·exact .inl (.inr (.inr (.inl h)))
  ·exact .inl (.inr (.inr (.inr (.inl h))))
  ·exact .inl (.inr (.inr (.inr (.inr (.inl h)))))
  ·exact .inr (by omega)
  ·exact .inl (.inr (.inr (.inr (.inr (.inr h)))))
 ·have hcm:c≠G.mp:=fun e=>hc (e▸HI.out.m4)
  simp [Ne.symm hcm,Below.heap_alloc _ _ _ hcl]
 ·intro c hc
  simp [Ne.symm hc]
 ·simp [Array.getElem?_setIfInBounds];omega
 ·simp [HB.out]
theorem qfv (G:Gh) (S:Sub) (m:Mc) (w:World) (t:ByteArray) (v:Vl) (x:Value) (i:Inv G S m w) (hb:lookB t.data.toList G.B=none) (hv:VRep G v x):
  Calls prog 139 #[bp G.mb,.string t,x] w fun e w'=>e=.returned (.tuple #[])∧Mv G w (G.glob t.data.toList w.heap.size) w'∧Inv (G.glob t.data.toList w.heap.size) S {m with glob:=put t.data.toList v m.glob} w'∧w'.heap.size=w.heap.size+1:=by
 obtain⟨ty,y,rfl⟩:=hv.form
 have HG:=hZ (qmi G S m w t i hb)
 have HV:=hZ hv
 have HGl:Hid (∀b,b∈G.mut→b<w.heap.size):=fun b h=>i.ml h
 clear i hv hb
 go_enter func139,ntmps139
 go_wp2_with (go_at_call 227;refine HG.out.mono ?_;rintro e w2 ⟨rfl,hH⟩;refine Hid.out ?_)
 obtain⟨hmv,hi,hz⟩:=hH
 have hm:(t.data.toList,w.heap.size)∈(G.glob t.data.toList w.heap.size).B:=List.mem_append_right _ (by simp)
 obtain⟨z,hz1,hz2⟩:=hi.gcell hm
 have hz3:=hi.gfz hm
 have HH:=hZ (And.intro hmv (And.intro hi (And.intro hm hz)))
 clear hmv hi hm hz
 rcases hz2 with rfl|⟨t',y',rfl⟩
 all_goals
  refine hZ ?_
  go_wp2
  go_end0
  obtain⟨hmv,hi,hm,hz⟩:=HH.out
  refine⟨rfl,⟨hmv.up,hmv.I,hmv.mu,fun {k} hk hn=>?_,by rw [qaf];exact hmv.size⟩,hi.setGlob hm (HV.out.mono hmv.up.le),by rw [qaf];exact hz⟩
  rw [qaa (a:=⟨w.heap.size,0,none⟩) k (by show k≠w.heap.size;omega)];exact hmv.blk hk hn
def Mk (F T W:Nat):Prop:=∀(k:Nat) (cc:Array Value) (w:World),Calls prog F #[.func (.func k) #[] cc] w fun e w'=>e=.returned (bp (w.heap.size+1))∧Lk ((w.alloc (.cells #[.func (.func k) #[] cc] T)).alloc (.cells #[.func (.func W) #[] #[bp w.heap.size]] 300)) w'
def MkM (F W:Nat):Prop:=∀(mb:Nat) (w:World),Calls prog F #[bp mb] w fun e w'=>e=.returned (bp (w.heap.size+1))∧Lk ((w.alloc (.cells #[bp mb] 107)).alloc (.cells #[.func (.func W) #[] #[bp w.heap.size]] 300)) w'
theorem qi5:Mk 177 283 257:=by
 intro k cc w
 go_enter func177,ntmps177
 go_wp2
 go_ret
 exact⟨rfl,rfl,rfl,rfl,rfl⟩
theorem qd0:Mk 193 287 268:=by
 intro k cc w
 go_enter func193,ntmps193
 go_wp2
 go_ret
 exact⟨rfl,rfl,rfl,rfl,rfl⟩
theorem qry:Mk 195 289 270:=by
 intro k cc w
 go_enter func195,ntmps195
 go_wp2
 go_ret
 exact⟨rfl,rfl,rfl,rfl,rfl⟩
theorem mk201:Mk 201 293 271:=by
 intro k cc w
 go_enter func201,ntmps201
 go_wp2
 go_ret
 exact⟨rfl,rfl,rfl,rfl,rfl⟩
theorem mk210:Mk 210 306 274:=by
 intro k cc w
 go_enter func210,ntmps210
 go_wp2
 go_ret
 exact⟨rfl,rfl,rfl,rfl,rfl⟩
theorem mk214:Mk 214 308 276:=by
 intro k cc w
 go_enter func214,ntmps214
 go_wp2
 go_ret
 exact⟨rfl,rfl,rfl,rfl,rfl⟩
theorem mk216:Mk 216 310 277:=by
 intro k cc w
 go_enter func216,ntmps216
 go_wp2
 go_ret
 exact⟨rfl,rfl,rfl,rfl,rfl⟩
theorem mk219:Mk 219 312 278:=by
 intro k cc w
 go_enter func219,ntmps219
 go_wp2
 go_ret
 exact⟨rfl,rfl,rfl,rfl,rfl⟩
theorem mk221:MkM 221 280:=by
 intro mb w
 go_enter func221,ntmps221
 go_wp2
 go_ret
 exact⟨rfl,rfl,rfl,rfl,rfl⟩
theorem mk222:MkM 222 284:=by
 intro mb w
 go_enter func222,ntmps222
 go_wp2
 go_ret
 exact⟨rfl,rfl,rfl,rfl,rfl⟩
theorem mk223:MkM 223 286:=by
 intro mb w
 go_enter func223,ntmps223
 go_wp2
 go_ret
 exact⟨rfl,rfl,rfl,rfl,rfl⟩
end
end Go.Proofs.YtldaocpojcfljaaGreatDoor
