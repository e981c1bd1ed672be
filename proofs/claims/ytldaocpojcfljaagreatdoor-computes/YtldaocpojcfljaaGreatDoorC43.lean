import Derived.Test.YtldaocpojcfljaaGreatDoorC42
set_option maxRecDepth 100000
set_option maxHeartbeats 4000000
namespace Go.Proofs.YtldaocpojcfljaaGreatDoor
open Tryz hiding parts
open Go.RowKit Go.Shelf
section
open Sc
theorem qsi (w:World):Calls prog 141 #[.int .i64 0,.int .i64 1] w fun e w'=>e=.returned (.iface 181 (.bool false))∧Lk w w':=by
 go_enter func141,ntmps141
 go_wp2
 go_ret
 exact⟨rfl,rfl,rfl,rfl,rfl⟩
theorem qsh (w:World):Calls prog 141 #[.int .i64 0,.int .i64 2] w fun e w'=>e=.returned (.iface 181 (.bool false))∧Lk w w':=by
 go_enter func141,ntmps141
 go_wp2
 go_ret
 exact⟨rfl,rfl,rfl,rfl,rfl⟩
theorem qsg (w:World):Calls prog 141 #[.int .i64 0,.int .i64 4] w fun e w'=>e=.returned (.iface 181 (.bool false))∧Lk w w':=by
 go_enter func141,ntmps141
 go_wp2
 go_ret
 exact⟨rfl,rfl,rfl,rfl,rfl⟩
theorem qsf (w:World):Calls prog 141 #[.int .i64 0,.int .i64 8] w fun e w'=>e=.returned (.iface 181 (.bool false))∧Lk w w':=by
 go_enter func141,ntmps141
 go_wp2
 go_ret
 exact⟨rfl,rfl,rfl,rfl,rfl⟩
theorem qo7 (w:World):Calls prog 141 #[.int .i64 0,.int .i64 16] w fun e w'=>e=.returned (.iface 181 (.bool false))∧Lk w w':=by
 go_enter func141,ntmps141
 go_wp2
 go_ret
 exact⟨rfl,rfl,rfl,rfl,rfl⟩
theorem sealed0 (mb:Nat) (w:World) (hE:∀a c w',Below w.heap.size w w'→Calls prog 91 #[.slice a 0 c,.iface 186 (.agg #[])] w' fun e w2=>e=.returned (.iface 186 (.agg #[]))∧Below w.heap.size w w2):Calls prog 140 #[bp mb,.slice none 0 0] w fun e w'=>e=.returned (.iface 186 (.agg #[]))∧Below w.heap.size w w':=by
 have HE:=hZ hE
 have hmk:∀w:World,(Instr.makeSlice 184 (.int .i64 0) (.int .i64 0)).run prog w=.ok (.slice (some ⟨w.heap.size,0,none⟩) 0 0) (w.alloc (.cells (madeCells #[.nilIface] 0) 116)):=
  fun w=>run_make_row' 184 116 .nilIface 16 underlying184 qet rfl .i64 .i64 0 (by omega) (by omega) w
 clear hE
 go_enter func140,ntmps140
 go_wp2
 go_loopw [13] (fun c wr=>c=.int .i64 0∧Below w.heap.size w wr) (fun _ _=>0)
 case atStart=>exact⟨rfl,((Below.refl _ _).alloc (Nat.le_refl _) _).alloc (by simp) _⟩
 case round=>
  obtain⟨rfl,hb⟩:=hrel
  have HB:=hZ hb
  clear hb
  go_wp2_with (first|(go_at_call 91;refine(HE.out _ _ _ HB.out).mono ?_;rintro e w2 ⟨rfl,hb⟩;have HB2:=hZ hb;clear hb))
  go_ret
  exact⟨rfl,HB2.out⟩
theorem qna (mb:Nat) (w:World) (Q:Ending→World→Prop) (St:Nat→World→Prop)
  (h0:Calls prog 140 #[bp mb,.slice none 0 0] w fun e w1=>e=.returned (.iface 186 (.agg #[]))∧∀w2,Lk w1 w2→Calls prog 139 #[bp mb,.string ⟨#[115,101,99,114,101,116,115]⟩,.iface 186 (.agg #[])] w2 fun e w3=>e=.returned (.tuple #[])∧St 1 w3)
  (s1:∀w1,St 1 w1→∀w2,Lk w1 w2→Calls prog 139 #[bp mb,.string ⟨#[111,117,116]⟩,.iface 181 (.bool false)] w2 fun e w3=>e=.returned (.tuple #[])∧St 2 w3)
  (s2:∀w1,St 2 w1→∀w2,Lk w1 w2→Calls prog 139 #[bp mb,.string ⟨#[105,110]⟩,.iface 181 (.bool false)] w2 fun e w3=>e=.returned (.tuple #[])∧St 3 w3)
  (s3:∀w1,St 3 w1→∀w2,Lk w1 w2→Calls prog 139 #[bp mb,.string ⟨#[99,108,111,99,107]⟩,.iface 181 (.bool false)] w2 fun e w3=>e=.returned (.tuple #[])∧St 4 w3)
  (s4:∀w1,St 4 w1→∀w2,Lk w1 w2→Calls prog 139 #[bp mb,.string ⟨#[100,105,99,101]⟩,.iface 181 (.bool false)] w2 fun e w3=>e=.returned (.tuple #[])∧St 5 w3)
  (s5:∀w1,St 5 w1→∀w2,Lk w1 w2→Calls prog 139 #[bp mb,.string ⟨#[107,101,121]⟩,.iface 181 (.bool false)] w2 fun e w3=>e=.returned (.tuple #[])∧St 6 w3)
  (hQ:∀w',St 6 w'→Q (.returned (.tuple #[])) w'):Calls prog 84 #[bp mb,.int .i64 0,.slice none 0 0] w Q:=by
 have HQ:=hZ hQ
 have H0:=hZ h0
 have S1:=hZ s1
 have S2:=hZ s2
 have S3:=hZ s3
 have S4:=hZ s4
 have S5:=hZ s5
 clear hQ h0 s1 s2 s3 s4 s5
 go_enter func84,ntmps84
 go_wp2_with (first|(go_at_call 140;refine H0.out.mono ?_;rintro e w1 ⟨rfl,hk⟩;have K:=hZ hk;clear hk)|(go_at_fn 139;refine(K.out _ (by exact⟨rfl,rfl,rfl,rfl⟩)).mono ?_;rintro e v1 ⟨rfl,hk⟩;have X1:=hZ hk;clear hk;refine Hid.out ?_)|(go_at_call 139;refine(K.out _ (by exact⟨rfl,rfl,rfl,rfl⟩)).mono ?_;rintro e v1 ⟨rfl,hk⟩;have X1:=hZ hk;clear hk;refine Hid.out ?_))
 refine hZ ?_
 go_wp2_with (first|(go_at_call 141;refine(qsi _).mono ?_;rintro e w1 ⟨rfl,hl⟩;have HL1:=hZ hl;clear hl)|(go_at_fn 139;(refine(S1.out _ X1.out _ (qat HL1.out (by exact⟨rfl,rfl,rfl,rfl⟩))).mono ?_;rintro e v2 ⟨rfl,hk⟩;have X2:=hZ hk;clear hk;refine Hid.out ?_))|(go_at_call 139;(refine(S1.out _ X1.out _ (qat HL1.out (by exact⟨rfl,rfl,rfl,rfl⟩))).mono ?_;rintro e v2 ⟨rfl,hk⟩;have X2:=hZ hk;clear hk;refine Hid.out ?_)))
 refine hZ ?_
 go_wp2_with (first|(go_at_call 141;refine(qsh _).mono ?_;rintro e w1 ⟨rfl,hl⟩;have HL2:=hZ hl;clear hl)|(go_at_fn 139;(refine(S2.out _ X2.out _ (qat HL2.out (by exact⟨rfl,rfl,rfl,rfl⟩))).mono ?_;rintro e v3 ⟨rfl,hk⟩;have X3:=hZ hk;clear hk;refine Hid.out ?_))|(go_at_call 139;(refine(S2.out _ X2.out _ (qat HL2.out (by exact⟨rfl,rfl,rfl,rfl⟩))).mono ?_;rintro e v3 ⟨rfl,hk⟩;have X3:=hZ hk;clear hk;refine Hid.out ?_)))
 refine hZ ?_
 go_wp2_with (first|(go_at_call 141;refine(qsg _).mono ?_;rintro e w1 ⟨rfl,hl⟩;have HL3:=hZ hl;clear hl)|(go_at_fn 139;(refine(S3.out _ X3.out _ (qat HL3.out (by exact⟨rfl,rfl,rfl,rfl⟩))).mono ?_;rintro e v4 ⟨rfl,hk⟩;have X4:=hZ hk;clear hk;refine Hid.out ?_))|(go_at_call 139;(refine(S3.out _ X3.out _ (qat HL3.out (by exact⟨rfl,rfl,rfl,rfl⟩))).mono ?_;rintro e v4 ⟨rfl,hk⟩;have X4:=hZ hk;clear hk;refine Hid.out ?_)))
 refine hZ ?_
 go_wp2_with (first|(go_at_call 141;refine(qsf _).mono ?_;rintro e w1 ⟨rfl,hl⟩;have HL4:=hZ hl;clear hl)|(go_at_fn 139;(refine(S4.out _ X4.out _ (qat HL4.out (by exact⟨rfl,rfl,rfl,rfl⟩))).mono ?_;rintro e v5 ⟨rfl,hk⟩;have X5:=hZ hk;clear hk;refine Hid.out ?_))|(go_at_call 139;(refine(S4.out _ X4.out _ (qat HL4.out (by exact⟨rfl,rfl,rfl,rfl⟩))).mono ?_;rintro e v5 ⟨rfl,hk⟩;have X5:=hZ hk;clear hk;refine Hid.out ?_)))
 refine hZ ?_
 go_wp2_with (first|(go_at_call 141;refine(qo7 _).mono ?_;rintro e w1 ⟨rfl,hl⟩;have HL5:=hZ hl;clear hl)|(go_at_fn 139;(refine(S5.out _ X5.out _ (qat HL5.out (by exact⟨rfl,rfl,rfl,rfl⟩))).mono ?_;rintro e v6 ⟨rfl,hk⟩;have X6:=hZ hk;clear hk;refine Hid.out ?_))|(go_at_call 139;(refine(S5.out _ X5.out _ (qat HL5.out (by exact⟨rfl,rfl,rfl,rfl⟩))).mono ?_;rintro e v6 ⟨rfl,hk⟩;have X6:=hZ hk;clear hk;refine Hid.out ?_)))
 refine hZ ?_
 go_wp2
 go_end0
 exact HQ.out _ X6.out
def world0:List (Bs×Vl):=[([115,101,99,114,101,116,115],.nil),([111,117,116],.bool false),([105,110],.bool false),([99,108,111,99,107],.bool false),([100,105,99,101],.bool false),([107,101,121],.bool false)]
def puts (l:List (Bs×Vl)) (g:List (Bs×Vl)):List (Bs×Vl):=l.foldl (fun g p=>put p.1 p.2 g) g
def WSt (G0:Gh) (w0:World) (S:Sub) (m:Mc) (k:Nat) (w:World):Prop:=∃G,Inv G S {m with glob:=puts (world0.take k) m.glob} w∧G.B.map (·.1)=G0.B.map (·.1)++(world0.take k).map (·.1)∧Mv G0 w0 G w
theorem WSt.step {G0:Gh} {w0:World} {S:Sub} {m:Mc} {k:Nat} {w w2:World} (h:WSt G0 w0 S m k w) (hl:Below w.heap.size w w2) {s:ByteArray} {v:Vl} {x:Value} (hk:world0[k]? =some (s.data.toList,v)) (hn:∀p,p∈world0→p.1∉G0.B.map (·.1)) (hv:∀G,VRep G v x):
  Calls prog 139 #[bp G0.mb,.string s,x] w2 fun e w3=>e=.returned (.tuple #[])∧WSt G0 w0 S m (k+1) w3:=by
 obtain⟨G,h1,h2,h3⟩:=h
 have hlt:k<world0.length:=(List.getElem?_eq_some_iff.1 hk).1
 have htk:world0.take (k+1)=world0.take k++[(s.data.toList,v)]:=by rw [List.take_add_one,hk];rfl
 have hnew:s.data.toList∉G.B.map (·.1):=by
  rw [h2,List.mem_append]
  rintro(h|h)
  ·exact hn _ (List.mem_of_getElem? hk) h
  ·have hnd:(world0.map (·.1)).Nodup:=by decide
   rw [List.map_take]at h
   obtain⟨j,hj,he⟩:=List.mem_take_iff_getElem.1 h
   have e2:(world0.map (·.1))[k]? =some s.data.toList:=by rw [List.getElem?_map,hk];rfl
   have e3:(world0.map (·.1))[j]? =some s.data.toList:=by rw [←he];exact List.getElem?_eq_getElem _
   have:=(List.getElem?_inj (by simp at hj⊢;omega) hnd).1 (e3.trans e2.symm)
   omega
 have key:=qfv G S _ w2 s v x (h1.below hl) (qeo hnew) (hv G)
 have hmb:G.mb=G0.mb:=h3.up.le.mb
 rw [hmb]at key
 refine Calls.mono key ?_
 rintro e w3 ⟨rfl,q1,q2,_⟩
 refine⟨rfl,_,?_,?_,(h3.trans (Mv.ext (Gh.ext.refl _ _) hl)).trans q1⟩
 ·have:puts (world0.take (k+1)) m.glob=put s.data.toList v (puts (world0.take k) m.glob):=by rw [htk];simp [puts]
  rw [this];exact q2
 ·show(G.B++[(s.data.toList,w2.heap.size)]).map (·.1)=_
  rw [htk];simp [h2]
theorem qm9 {G:Gh} {S:Sub} {m:Mc} {w:World} (i:Inv G S m w) (hn:∀p,p∈world0→p.1∉G.B.map (·.1)):Calls prog 84 #[bp G.mb,.int .i64 0,.slice none 0 0] w fun e w'=>e=.returned (.tuple #[])∧WSt G w S m 6 w':=by
 have h0:WSt G w S m 0 w:=⟨G,i,by simp,Mv.refl _ _⟩
 refine qna G.mb w _ (WSt G w S m) ?_ (fun w1 h w2 hl=>h.step (bl0 hl) rfl hn fun _=>.bool _) (fun w1 h w2 hl=>h.step (bl0 hl) rfl hn fun _=>.bool _) (fun w1 h w2 hl=>h.step (bl0 hl) rfl hn fun _=>.bool _) (fun w1 h w2 hl=>h.step (bl0 hl) rfl hn fun _=>.bool _) (fun w1 h w2 hl=>h.step (bl0 hl) rfl hn fun _=>.bool _) (fun w' h=>⟨rfl,h⟩)
 refine Calls.mono (sealed0 G.mb w fun a c w' hb=>?_) ?_
 ·refine Calls.mono (qc9 G S m w' a c [] [] .nil _ (i.below hb) ⟨rfl,fun j v x h=>by simp at h⟩ .nil (.inl rfl) (by simp)) ?_
  rintro e w2 ⟨H,x,rfl,_,_,hx,hb2⟩
  have hx:VRep H .nil x:=hx
  cases hx with
  |nil=>exact⟨rfl,hb.trans (hb2.mono hb.size)⟩
  |proc _ b h=>cases h
 ·rintro e w1 ⟨rfl,hb⟩
  exact⟨rfl,fun w2 hl=>h0.step (hb.trans ((bl0 hl).mono hb.size)) rfl hn fun _=>.nil⟩
def Gh.at (G:Gh) (w:World) (F:Nat→Prop):Gh:={G with W:=w,F:=F}
theorem Gh.le_at (G:Gh) (w:World) (F:Nat→Prop):G.le (G.at w F):=⟨fun h=>h,fun h=>h,fun h=>h,fun h=>h,rfl,rfl,rfl,rfl,rfl,rfl⟩
theorem Inv.at {G:Gh} {S:Sub} {m:Mc} {w W:World} {F:Nat→Prop} (i:Inv G S m w) (ho:w.os=W.os∧w.tape=W.tape∧w.output=W.output) (hF:∀b,F b→b<w.heap.size∧w.heap[b]? =W.heap[b]?∧b∉G.mut∧G.I b=none):Inv (G.at W F) S m w:=by
 have l:=G.le_at W F
 refine⟨i.imm,i.nd,i.mi,i.ml,i.st,i.ce,i.sl,i.cl,?_,i.mp,?_,i.gd,i.gk,?_,i.el,i.jl,i.jn,i.ji,ho,fun {b} hb=>⟨(hF b hb).2.1,(hF b hb).1⟩,fun {b} hm hb=>(hF b hb).2.2.1 hm,fun {b} hb=>(hF b hb).2.2.2⟩
 ·obtain⟨gv,wp,a,b⟩:=i.ma
  exact⟨gv,wp,a,b.mono l⟩
 ·intro s b hs
  obtain⟨x,a,k⟩:=i.gl hs
  exact⟨x,a,k.mono l⟩
 ·intro j vs e hj
  obtain⟨fb,sv,pf,a,b,c,d⟩:=i.en hj
  exact⟨fb,sv,pf,a,b,c.mono l,d.mono l fun _ _ _ _ _=>rfl⟩
theorem qpc (mb rb:Nat) (w:World):Calls prog 142 #[bp mb,bp rb] w fun e w'=>e=.returned (bp (w.heap.size+3))∧Lk ((((w.alloc (.map #[] 0)).alloc (.map #[] 0)).alloc (.cells #[.int .i64 0,.map (some (w.heap.size+1))] 329)).alloc (.cells #[bp mb,bp rb,.map (some w.heap.size),bp (w.heap.size+2)] 331)) w':=by
 have hm1:∀w:World,(Instr.makeMap 325 none).run prog w=.ok (.map (some w.heap.size)) (w.alloc (.map #[] 0)):=fun w=>by simp [Instr.makeMap]
 have hm2:∀w:World,(Instr.makeMap 327 none).run prog w=.ok (.map (some w.heap.size)) (w.alloc (.map #[] 0)):=fun w=>by simp [Instr.makeMap]
 go_enter func142,ntmps142
 go_wp2
 go_ret
 exact⟨rfl,rfl,rfl,rfl,rfl⟩
end
section
open Sc
theorem cellO {w:World} {b o o':Nat} {x v:Value} (h:w.cell? ⟨b,o,none⟩=some x) (hn:o≠o'):(w.setCell ⟨b,o',none⟩ v).cell? ⟨b,o,none⟩=some x:=by
 simp only [World.cell?,World.setCell,Array.getElem?_modify]at h⊢
 cases hw:w.heap[b]? with
 |none=>rw [hw]at h;simp at h
 |some ob=>
  rw [hw]at h
  cases ob with
  |cells c t fr=>simp at h⊢;rw [Array.getElem?_setIfInBounds_ne (Ne.symm hn)];exact h
  |_=>simp at h
theorem qs4 (rk mb rb:Nat) (ga:Option Addr) (n cap:Nat) (dk:Nat→Dl) (pk:Nat→Int) (w:World) (Q:Ending→World→Prop) (R:Nat→Nat→World→Prop) (h100:n≤1000000)
  (c0:w.cell? ⟨rk,0,none⟩=some (bp mb)) (c1:w.cell? ⟨rk,1,none⟩=some (bp rb))
  (h0:∀w',Lk w w'→Calls prog 142 #[bp mb,bp rb] w' fun e w2=>∃xb,e=.returned (bp xb)∧∀w3,Lk w2 w3→R xb 0 w3)
  (hrow:∀xb k wr,R xb k wr→k<n→∃g o,ga=some ⟨g,o,none⟩∧(∀j,j<6→wr.cell? ⟨g,o+k*7+j,none⟩=(dk k).cells[j]?)∧wr.cell? ⟨g,o+k*7+6,none⟩=some (.int .i64 (pk k)))
  (hrun:∀xb k wr,R xb k wr→k<n→wr.cell? ⟨rk,0,none⟩=some (bp mb)∧(∃p,wr.cell? ⟨rk,4,none⟩=some (.int .i64 p))∧(∀o,wr.frozen? ⟨rk,o,none⟩=false))
  (hform:∀xb k wr,R xb k wr→k<n→∀w1,Lk ((wr.setCell ⟨rk,4,none⟩ (.int .i64 (pk k))).alloc (.cells ((dk k).cells++#[.int .i64 (pk k)]) 136)) w1→Calls prog 144 #[bp xb,.agg (dk k).cells] w1 (RetP (fun v w2=>(∃kx cx,v=.func (.func kx) #[] cx)∧w2.cell? ⟨rk,0,none⟩=some (bp mb)∧w2.heap[wr.heap.size]? =some (.cells ((dk k).cells++#[.int .i64 (pk k)]) 136 (0,0))∧
   ∀w3,Lk w2 w3→Calls prog 143 #[bp mb,v] w3 (RetP (fun x w4=>(∃t y,x=.iface t y)∧w4.cell? ⟨rk,0,none⟩=some (bp mb)∧w4.heap[wr.heap.size]? =some (.cells ((dk k).cells++#[.int .i64 (pk k)]) 136 (0,0))∧(k+1<n→∀w5,Lk w4 w5→R xb (k+1) w5)∧
    (k+1=n→∀w5,Lk w4 w5→Calls prog 145 #[x,.int .i64 1200] w5 fun e w6=>∃s,e=.returned (.string s)∧(∃z,w6.cell? ⟨rk,5,none⟩=some (.string z))∧(∀o,w6.frozen? ⟨rk,o,none⟩=false)∧∀w7,Lk (w6.setCell ⟨rk,5,none⟩ (.string s)) w7→R xb (k+1) w7)) Q)) Q))
  (hend:∀xb wr,R xb n wr→Q (.returned (.tuple #[])) wr):
  Calls prog 85 #[bp rk,.slice ga n cap] w Q:=by
 have H0:=hZ h0
 have HRow:=hZ hrow
 have HRun:=hZ hrun
 have HForm:=hZ hform
 have HEnd:=hZ hend
 clear h0 hrow hrun hform hend
 go_enter func85,ntmps85
 go_wp2_with (fail)
 refine qai 8 (by kernel_rfl) (by kernel_rfl) ?_
 simp only [List.take_succ_cons,List.take_zero,List.drop_succ_cons,List.drop_zero]
 repeat still_step
 refine wpStill_nil ?_
 go_wp2_with (go_at_call 142;refine(H0.out _ (by exact⟨rfl,rfl,rfl,rfl⟩)).mono ?_;rintro e w2 ⟨xb,rfl,hK⟩;have HK:=hZ hK;clear hK;refine Hid.out ?_)
 refine hZ ?_
 go_wp2
 go_loopw [19] (fun c wr=>∃(k:Nat),k≤n∧c=.int .i64 (k:Int)∧R xb k wr) (fun c _=>n-(intOf c).toNat)
 case atStart=>exact⟨0,Nat.zero_le _,rfl,HK.out _ (by exact⟨rfl,rfl,rfl,rfl⟩)⟩
 case round=>
  obtain⟨k,hk,rfl,hR⟩:=hrel
  have HR:=hZ hR
  clear hR
  by_cases hlt:k<n
  ·obtain⟨⟨yk,yn,ytr,ytx,ym,ya,ylen,ycap⟩,hy⟩:∃y,y=dk k:=⟨_,rfl⟩
   obtain⟨pp,hp⟩:∃y,y=pk k:=⟨_,rfl⟩
   obtain⟨g,o,rfl,cell,d6⟩:=HRow.out xb k wr HR.out hlt
   obtain⟨r0,⟨q4,r4⟩,rf⟩:=HRun.out xb k wr HR.out hlt
   rw [←hy]at cell
   rw [←hp]at d6
   have d0:wr.cell? ⟨g,o+k*7,none⟩=some (.int .i64 yk):=cell 0 (by omega)
   have d1:wr.cell? ⟨g,o+k*7+1,none⟩=some (.int .i64 yn):=cell 1 (by omega)
   have d2:wr.cell? ⟨g,o+k*7+2,none⟩=some (.bool ytr):=cell 2 (by omega)
   have d3:wr.cell? ⟨g,o+k*7+3,none⟩=some (.string ytx):=cell 3 (by omega)
   have d4:wr.cell? ⟨g,o+k*7+4,none⟩=some (.int .i64 ym):=cell 4 (by omega)
   have d5:wr.cell? ⟨g,o+k*7+5,none⟩=some (.slice ya ylen ycap):=cell 5 (by omega)
   have hc:=HForm.out xb k wr HR.out hlt
   rw [←hy,←hp]at hc
   have HC:=hZ hc
   clear cell hc hy hp
   have lrk:=qac r0
   have hkl':(k:Int)<(n:Int):=by omega
   go_wp2_with (fail)
   have hz:=qaf (w:=wr) (a:=⟨rk,4,none⟩) (v:=.int .i64 pp)
   have e0:=qaj (o:=.cells #[.int .i64 yk,.int .i64 yn,.bool ytr,.string ytx,.int .i64 ym,.slice ya ylen ycap,.int .i64 pp] 136) (cellO (o':=4) (v:=.int .i64 pp) r0 (by omega))
   have hnew:=heap_alloc_new (wr.setCell ⟨rk,4,none⟩ (.int .i64 pp)) (.cells #[.int .i64 yk,.int .i64 yn,.bool ytr,.string ytx,.int .i64 ym,.slice ya ylen ycap,.int .i64 pp] 136)
   rw [hz]at hnew
   have HC':=HC.out
   clear HC
   have eA:(Dl.cells ⟨yk,yn,ytr,ytx,ym,ya,ylen,ycap⟩++#[Value.int .i64 pp])=#[.int .i64 yk,.int .i64 yn,.bool ytr,.string ytx,.int .i64 ym,.slice ya ylen ycap,.int .i64 pp]:=rfl
   rw [eA]at HC'
   generalize (wr.setCell ⟨rk,4,none⟩ (.int .i64 pp)).alloc (.cells #[.int .i64 yk,.int .i64 yn,.bool ytr,.string ytx,.int .i64 ym,.slice ya ylen ycap,.int .i64 pp] 136)=W at e0 hnew HC'⊢
   have HC:=hZ HC'
   clear HC' eA hz
   have a0:W.cell? ⟨wr.heap.size,0,none⟩=some (.int .i64 yk):=by simp only [World.cell?,hnew];rfl
   have a1:W.cell? ⟨wr.heap.size,1,none⟩=some (.int .i64 yn):=by simp only [World.cell?,hnew];rfl
   have a2:W.cell? ⟨wr.heap.size,2,none⟩=some (.bool ytr):=by simp only [World.cell?,hnew];rfl
   have a3:W.cell? ⟨wr.heap.size,3,none⟩=some (.string ytx):=by simp only [World.cell?,hnew];rfl
   have a4:W.cell? ⟨wr.heap.size,4,none⟩=some (.int .i64 ym):=by simp only [World.cell?,hnew];rfl
   have a5:W.cell? ⟨wr.heap.size,5,none⟩=some (.slice ya ylen ycap):=by simp only [World.cell?,hnew];rfl
   clear hnew
   have mkS:∀W:World,W.cell? ⟨rk,0,none⟩=some (bp mb)→W.heap[wr.heap.size]? =some (.cells #[.int .i64 yk,.int .i64 yn,.bool ytr,.string ytx,.int .i64 ym,.slice ya ylen ycap,.int .i64 pp] 136 (0,0))→W.cell? ⟨rk,0,none⟩=some (bp mb)∧W.cell? ⟨wr.heap.size,0,none⟩=some (.int .i64 yk)∧W.cell? ⟨wr.heap.size,1,none⟩=some (.int .i64 yn)∧W.cell? ⟨wr.heap.size,2,none⟩=some (.bool ytr)∧W.cell? ⟨wr.heap.size,3,none⟩=some (.string ytx)∧W.cell? ⟨wr.heap.size,4,none⟩=some (.int .i64 ym)∧W.cell? ⟨wr.heap.size,5,none⟩=some (.slice ya ylen ycap):=fun W h0 h=>by
    refine⟨h0,?_,?_,?_,?_,?_,?_⟩ <;> simp only [World.cell?,h] <;> rfl
   have HM:=hZ mkS
   clear mkS
   go_region_held2 (fun w'=>w'.cell? ⟨rk,0,none⟩=some (bp mb)∧w'.cell? ⟨wr.heap.size,0,none⟩=some (.int .i64 yk)∧w'.cell? ⟨wr.heap.size,1,none⟩=some (.int .i64 yn)∧w'.cell? ⟨wr.heap.size,2,none⟩=some (.bool ytr)∧w'.cell? ⟨wr.heap.size,3,none⟩=some (.string ytx)∧w'.cell? ⟨wr.heap.size,4,none⟩=some (.int .i64 ym)∧w'.cell? ⟨wr.heap.size,5,none⟩=some (.slice ya ylen ycap)) (first|(exact⟨e0,a0,a1,a2,a3,a4,a5⟩)|(exact HS1.out)|(exact HS2.out)|go_keep)
    (first
     |(go_at_call 144;refine(HC.out _ (by exact⟨rfl,rfl,rfl,rfl⟩)).mono ?_;rintro e w2 (⟨ps,rfl,hq⟩|⟨v,rfl,⟨kx,cx,rfl⟩,hs,hs',hK⟩);(exact⟨rfl,hq⟩);have HK2:=hZ hK;have HS1:=hZ (HM.out _ hs hs');clear hK hs hs')
     |(go_at_call 143;refine(HK2.out _ (by exact⟨rfl,rfl,rfl,rfl⟩)).mono ?_;rintro e w4 (⟨ps,rfl,hq⟩|⟨v,rfl,⟨ty,y,rfl⟩,hs,hs',hA,hB⟩);(exact⟨rfl,hq⟩);have HA:=hZ hA;have HBB:=hZ hB;have HS2:=hZ (HM.out _ hs hs');clear hA hB hs hs'))
   by_cases hl:k+1=n
   ·have hB:=HBB.out hl
    have HB5:=hZ hB
    clear hB
    have e5:((k:Int)==(n:Int)-1)=true:=by simp;omega
    have e6:(k:Int)=(n:Int)-1:=by omega
    go_wp2_with (go_at_call 145;refine(HB5.out _ (by exact⟨rfl,rfl,rfl,rfl⟩)).mono ?_;rintro e w6 ⟨s,rfl,⟨z,hz5⟩,hf6,hK⟩;have HK6:=hZ hK;clear hK;refine Hid.out ?_)
    refine hZ ?_
    go_wp2
    go_roundw
    case rel=>exact⟨k+1,by omega,by go_num,HK6.out _ (by exact⟨rfl,rfl,rfl,rfl⟩)⟩
    case measure=>simp [intOf];omega
   ·have hA:=HA.out (by omega)
    have HA5:=hZ hA
    clear hA
    have e5:((k:Int)==(n:Int)-1)=false:=by simp;omega
    have e6:¬(k:Int)=(n:Int)-1:=by omega
    go_wp2
    go_roundw
    case rel=>exact⟨k+1,by omega,by go_num,HA5.out _ (by exact⟨rfl,rfl,rfl,rfl⟩)⟩
    case measure=>simp [intOf];omega
  ·have hke:k=n:=by omega
   have hR:=HR.out
   rw [hke]at hR
   have HR2:=hZ hR
   clear hR HR
   have hnl:¬(k:Int)<(n:Int):=by omega
   clear hke
   go_wp2
   go_end0
   exact HEnd.out _ _ HR2.out
end
end Go.Proofs.YtldaocpojcfljaaGreatDoor
