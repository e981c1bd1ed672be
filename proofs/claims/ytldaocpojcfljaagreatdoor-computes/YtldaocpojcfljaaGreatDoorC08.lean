import Derived.Test.YtldaocpojcfljaaGreatDoorC07
import Derived.Below
import Derived.Lib.Hide
import Derived.Shelf.Abstract
import Derived.StillTailTactics
import Derived.Deep.RegionHeld3
set_option maxRecDepth 100000
set_option maxHeartbeats 4000000
namespace Go.Proofs.YtldaocpojcfljaaGreatDoor
open Tryz hiding parts
section
namespace Rd
open Go.RowKit
theorem top_end (f:Nat) (l:List UInt8) (h:l=[]):Py.topP (f+1) l=.inr ([],[]):=by subst h;rfl
theorem top_bad (f:Nat) (l:List UInt8) (hk:Px.skip false l=l) (hne:l≠[]) (e:Nat×Nat) (h:Py.rd f false 0 l=.inl e):Py.topP (f+1) l=.inl e:=by
 rw [Py.topP,hk]
 cases l with
 |nil=>exact absurd rfl hne
 |cons c r=>simp only;rw [h]
theorem qj6 (f:Nat) (l:List UInt8):Py.topP f (Px.skip false l)=Py.topP f l:=by
 cases f with
 |zero=>rfl
 |succ f=>rw [Py.topP,Py.topP,Px.skip_idem]
theorem qqr (f:Nat) (l:List UInt8) (hk:Px.skip false l=l) (hne:l≠[]) (x:List Dt) (r1:List UInt8) (h:Py.rd f false 0 l=.inr (x,r1)):Py.topP (f+1) l=Py.preP (x.map (fun t=>(t,l.length))) (Py.topP f (Px.skip false r1)):=by
 rw [qj6,Py.topP,hk]
 cases l with
 |nil=>exact absurd rfl hne
 |cons c r=>
  simp only;rw [h];simp only
  rcases Py.topP f r1 with e|⟨xs,rr⟩ <;> rfl
def Fe.cells (x:El×Int):List Value:=x.1.cells++[.int .i64 x.2]
theorem qof {w:World} {lo:Nat} {v:Value} {n:Nat} {xs:List Value} (h:w.ownsRow lo 136 7 v n xs):∃a cap,v=.slice a n cap:=by
 rcases h.2 with⟨h1,h2⟩|⟨g,cap,cur,h1,_⟩
 ·subst h2;exact⟨_,_,h1⟩
 ·exact⟨_,_,h1⟩
theorem qeh {w w':World} {lo b:Nat} {v:Value} {n:Nat} {xs:List Value} (h:w.ownsRow lo 136 7 v n xs) (hO:Only b w w') (hb:b<lo):w'.ownsRow lo 136 7 v n xs:=by
 refine h.kept hO ?_
 cases hv:v.ownBlock with
 |none=>exact .inl rfl
 |some k=>right;intro e;cases e;have:=(h.lt _ hv).1;omega
theorem info136:(prog.info? 136).map (fun i=>(i.zero,i.size,i.bytes))=some (some (.agg #[.int .i64 0,.int .i64 0,.bool false,.string ⟨#[]⟩,.int .i64 0,.slice none 0 0,.int .i64 0]),7,80):=by kernel_rfl
theorem Mem.turn' {lo lo' m:Nat} {own:Nat→Prop} {w:World} {es:List El} {ts:List Dt} (h:Mem lo m own w es ts) (hl:lo'≤lo):Mem lo' m NoB w es ts:=
 ⟨h.len,fun i x u h1 h2=>Rep.turn hl (fun _ e=>False.elim e) (h.all i x u h1 h2)⟩
def ResT (s:ByteArray) (r:Sum (Nat×Nat) (List (Dt×Nat)×List UInt8)) (w:World) (e:Ending) (w':World):Prop:=
 Below w.heap.size w w'∧
 match r with
 | .inl (c,k)=>∃N,e=.returned (.tuple #[.slice none 0 0,.pointer (some ⟨N,0,none⟩)])∧w.heap.size≤N∧w'.heap[N]? =some (.cells #[.int .i64 (c:Int),.int .i64 ((s.size-k:Nat):Int)] 126 (0,0))
 | .inr (ts,_)=>∃(es:List (El×Int)) (a:Option Addr) (cap:Nat),e=.returned (.tuple #[.slice a es.length cap,.pointer none])∧w'.ownsRow w.heap.size 136 7 (.slice a es.length cap) es.length (es.flatMap Fe.cells)∧Mem w.heap.size 32 NoB w' (es.map (·.1)) (ts.map (·.1))∧es.map (·.2)=ts.map (fun t=>((s.size-t.2:Nat):Int))∧es.length≤s.size
def TRel (F b:Nat) (s:ByteArray) (w:World) (mv:Value) (wr:World):Prop:=
 ∃(q f:Nat) (es:List (El×Int)) (ts:List (Dt×Nat)),q≤s.size∧Px.skip false (L s q)=L s q∧Rd b s q 0 wr∧Only b w wr∧
  wr.ownsRow (b+1) 136 7 mv es.length (es.flatMap Fe.cells)∧Mem (b+1) 32 (Bl mv) wr (es.map (·.1)) (ts.map (·.1))∧es.map (·.2)=ts.map (fun t=>((s.size-t.2:Nat):Int))∧es.length≤q∧2*(s.size-q)+2≤f∧
  Py.topP F (L s 0)=Py.preP ts (Py.topP f (L s q))
theorem text_any (s:ByteArray) (w:World) (hs:s.size≤1200) (hG:GV w) (hw:6≤w.heap.size):
  Calls prog 58 #[.string s] w fun e w'=>ResT s (Py.topP (2*s.size+2) (L s 0)) w e w':=by
 have HG:=hZ hG
 clear hG
 have hR:∀o:Obj,o=.cells #[.string s,.int .i64 0,.int .i64 0] 175 (0,0)→Rd w.heap.size s 0 0 (w.alloc o):=fun o ho=>by subst ho;exact heap_alloc_new w _
 have HRn:=hZ hR
 clear hR
 have h12:decide (1200<(s.size:Int))=false:=by simp;omega
 go_enter func58,ntmps58
 go_wp2_with (go_at_call 86;refine(qa2 w.heap.size s 0 0 _ (HRn.out _ rfl) (by omega) hs).mono ?_;rintro e w1 ⟨rfl,q0,hpq0,hq0,hsk0,hR0,hO0⟩;refine Hid.out ?_)
 have HR0:=hZ hR0
 have HO0:=hZ (((Only.refl w.heap.size w).alloc _).trans hO0)
 have HSK0:=hZ hsk0
 clear hR0 hO0 hsk0
 refine hZ ?_
 go_wp2
 go_loopw [5] (TRel (2*s.size+2) w.heap.size s w) (fun _ wr=>s.size-posOf w.heap.size wr)
 case atStart=>exact⟨q0,2*s.size+2,[],[],hq0,by rw [←HSK0.out,Px.skip_idem],HR0.out,HO0.out,World.ownsRow_nil _ _ _ _,Mem.nil _ _ _ _,rfl,by simp,by omega,by rw [←HSK0.out,qj6,Py.preP_nil]⟩
 case round=>
  obtain⟨q,f,es,ts,hq,hsk,hR,hO,hown,hmem,hpl,hle,hfq,heq⟩:=hrel
  obtain⟨f,rfl⟩:∃f',f=f'+1:=⟨f-1,by omega⟩
  obtain⟨i0,hi,hz0',hz1',hz2'⟩:=info_parts info136
  have HRq:=hZ hR
  have HO:=hZ hO
  have HOwn:=hZ hown
  have HMem:=hZ hmem
  have HEq:=hZ heq
  have HSk:=hZ hsk
  have HPl:=hZ hpl
  have h1q:=hR.c1
  have HPos:Hid (posOf w.heap.size wr=q):=hR.pos
  have hbr:w.heap.size<wr.heap.size:=hR.lt
  clear hR hO hmem heq hsk hown hpl
  by_cases hlt:q<s.size
  ·have hd:((q:Int)==(s.size:Int))=false:=by simp;omega
   have hne:L s q≠[]:=by rw [L_lt s q hlt];simp
   have HNe:=hZ hne
   have HDf:=hZ (qpw f w.heap.size s q 0)
   clear hne
   cases hr:Py.rd f false 0 (L s q)with
   |inl ck=>
    obtain⟨c,k⟩:=ck
    have HT:Hid (Py.topP (2*s.size+2) (L s 0)=.inl (c,k)):=by
     show _=_
     rw [HEq.out,top_bad f _ HSk.out HNe.out (c,k) hr];rfl
    have HDe:Hid (∀w0,Rd w.heap.size s q 0 w0→GV w0→Calls prog 88 #[.pointer (some ⟨w.heap.size,0,none⟩)] w0 fun e w'=>Res w.heap.size s 0 (.inl (c,k)) w0 e w'):=by
     intro w0 h1 h2
     have:=HDf.out w0 h1 hq hs (by omega) h2 hw (by omega)
     rw [hr]at this;exact this
    clear hr HDf
    go_wp2_with (first|(go_at_call 87;refine(qah w.heap.size s q 0 _ HRq.out).mono ?_;rintro e w' ⟨rfl,n1,rfl⟩)|(go_at_call 88;refine(HDe.out _ (by exact HRq.out.drewN _) (by exact(HG.out.only (HO.out.drewN _) hw (by omega)))).mono ?_;rintro e w1 ⟨hO,N,rfl,hN0,hN,p',hR1⟩;refine Hid.out ?_))
    have hN9:w.heap.size≤N:=by simp at hN0;omega
    have HN:=hZ hN
    have HO1:=hZ ((HO.out.drewN _).trans hO)
    clear hO hN hN0 hR1
    refine hZ ?_
    go_wp2
    go_ret2
    rw [HT.out]
    exact⟨(HO1.out.alloc _).below (Nat.le_refl _) (Nat.le_refl _),N,rfl,hN9,by rw [Below.heap_alloc _ _ _ (Array.getElem?_eq_some_iff.1 HN.out).1];exact HN.out⟩
   |inr xr=>
    obtain⟨xs,rr⟩:=xr
    obtain⟨hsuf,hlen,hone⟩:=Py.rd_short f false 0 (L s q) xs rr hr
    obtain⟨t,rfl⟩:=hone rfl
    have HT:=hZ (qqr f _ HSk.out HNe.out _ _ hr)
    have HDe:Hid (∀w0,Rd w.heap.size s q 0 w0→GV w0→Calls prog 88 #[.pointer (some ⟨w.heap.size,0,none⟩)] w0 fun e w'=>Res w.heap.size s 0 (.inr ([t],rr)) w0 e w'):=by
     intro w0 h1 h2
     have:=HDf.out w0 h1 hq hs (by omega) h2 hw (by omega)
     rw [hr]at this;exact this
    have hLr:=L_suf s q rr hsuf
    have HLr:=hZ hLr
    rw [qb3]at hlen
    clear hr HDf hsuf hLr hone
    go_wp2_with (first|(go_at_call 87;refine(qah w.heap.size s q 0 _ HRq.out).mono ?_;rintro e w' ⟨rfl,n1,rfl⟩)|(go_at_call 88;refine(HDe.out _ (by exact HRq.out.drewN _) (by exact(HG.out.only (HO.out.drewN _) hw (by omega)))).mono ?_;rintro e w1 ⟨hO,x,t',ht,rfl,hrep,hrd⟩;refine Hid.out ?_))
    obtain rfl:t'=t:=(List.cons.inj ht).1.symm
    clear ht
    have hz1:wr.heap.size≤w1.heap.size:=by have:=hO.size;simpa using this
    have hOr:Only w.heap.size wr w1:=((Only.refl w.heap.size wr).drewN n1).trans hO
    have HO1:=hZ (HO.out.trans hOr)
    have HR1:=hZ hrd
    have hown1:=qeh HOwn.out hOr (by omega)
    have HMem1:=hZ (HMem.out.only hOr (by omega))
    have HRep:=hZ hrep
    have HOwn1:=hZ hown1
    have HV:Hid (∀k,u5.ownBlock=some k→k<wr.heap.size):=fun k hk=>(HOwn.out.lt k hk).2
    clear hO hOr hrd hrep hown1 HOwn HMem HDe
    obtain⟨xk,xn,xtr,xtx,xm,xa,xlen,xcap⟩:=x
    refine hZ ?_
    go_wp2_with (at_builtin;refine wpList_append_lies _ rfl _ _ 121 rfl (w.heap.size+1) 136 i0 (.agg #[.int .i64 0,.int .i64 0,.bool false,.string ⟨#[]⟩,.int .i64 0,.slice none 0 0,.int .i64 0]) 7 80 underlying121 hi hz0' hz1' hz2' rfl (by decide) _ _ _ rfl ((HOwn1.out.alloc _).alloc _) ⟨w1.heap.size+1,0,none⟩ 1 1 [.int .i64 xk,.int .i64 xn,.bool xtr,.string xtx,.int .i64 xm,.slice xa xlen xcap,.int .i64 q] rfl rfl ?c1 ?c2 (by decide) ?c3 ?c4 ?c5 (w1.heap.size+1+1) ?c6 ?_)
    case c1=>exact World.news_of_block (cs:=#[.int .i64 xk,.int .i64 xn,.bool xtr,.string xtx,.int .i64 xm,.slice xa xlen xcap,.int .i64 q]) (new2 _ _ _)
    case c2=>intro u hu;simp at hu;rcases hu with rfl|rfl|rfl|rfl|rfl|rfl|rfl <;> rfl
    case c3=>unfold maxLen;omega
    case c4=>omega
    case c5=>simp;omega
    case c6=>simp
    intro g cap w3 hown3 hgrow3 hat3 hlt3
    refine Hid.out ?_
    have HO3:=hZ (((HO1.out.alloc _).alloc _).newO hgrow3 (fun k h=>by have:=(HOwn1.out.lt k h).1;omega))
    have HR3:=hZ (((HR1.out.alloc _).alloc _).kept hgrow3 (by intro e;have:=(HOwn1.out.lt _ e.symm).1;omega))
    have hga:=World.grownBy_alloc w1 (Obj.cells #[Value.int IntKind.i64 xk,Value.int IntKind.i64 xn,Value.bool xtr,Value.string xtx,Value.int IntKind.i64 xm,Value.slice xa xlen xcap] 134) none
    have hgb:=World.grownBy_alloc (w1.alloc (Obj.cells #[Value.int IntKind.i64 xk,Value.int IntKind.i64 xn,Value.bool xtr,Value.string xtx,Value.int IntKind.i64 xm,Value.slice xa xlen xcap] 134)) (Obj.cells #[Value.int IntKind.i64 xk,Value.int IntKind.i64 xn,Value.bool xtr,Value.string xtx,Value.int IntKind.i64 xm,Value.slice xa xlen xcap,Value.int IntKind.i64 q] 136) none
    have HMem3:=hZ (Mem.grow (sl:=.slice (some ⟨g,0,none⟩) (es.length+1) cap) (x:=⟨xk,xn,xtr,xtx,xm,xa,xlen,xcap⟩) (lo2:=wr.heap.size) ((HMem1.out.kept hga (fun g h=>by cases h)).kept hgb (fun g h=>by cases h)) hgrow3 hat3 (by simp) rfl (Rep.kept hgb (fun g h=>by cases h) (Rep.kept hga (fun g h=>by cases h) HRep.out)) (by omega) HV.out)
    have HOwn3:=hZ hown3
    have HX4:Hid (List.flatMap Fe.cells es++[Value.int IntKind.i64 xk,Value.int IntKind.i64 xn,Value.bool xtr,Value.string xtx,Value.int IntKind.i64 xm,Value.slice xa xlen xcap,Value.int IntKind.i64 q]=List.flatMap Fe.cells (es++[(⟨xk,xn,xtr,xtx,xm,xa,xlen,xcap⟩,(q:Int))])):=by
     show _=_
     simp [Fe.cells,El.cells]
    clear hown3 hgrow3 hat3 hlt3 hga hgb HOwn1 HMem1 HR1 HO1 HRep HV
    refine hZ ?_
    go_wp2_with (go_at_call 86;refine(qa2 w.heap.size s (s.size-rr.length) 0 _ HR3.out (by omega) hs).mono ?_;rintro e w4 ⟨rfl,q2,hq21,hq22,hsk2,hR4,hO4⟩;refine Hid.out ?_)
    have HO4:=hZ (HO3.out.trans hO4)
    have HR4:=hZ hR4
    have HOwn4:=hZ (qeh HOwn3.out hO4 (by omega))
    have HMem4:=hZ (HMem3.out.only hO4 (by omega))
    have HSk2:=hZ hsk2
    have HPos4:Hid (posOf w.heap.size w4=q2):=hR4.pos
    clear hR4 hO4 hsk2
    refine hZ ?_
    go_wp2
    go_roundw
    case rel=>
     refine⟨q2,f,es++[(⟨xk,xn,xtr,xtx,xm,xa,xlen,xcap⟩,(q:Int))],ts++[(t',(L s q).length)],hq22,by rw [←HSk2.out,Px.skip_idem],HR4.out,HO4.out,?_,?_,?_,by simp;omega,by omega,?_⟩
     ·rw [←HX4.out];simpa using HOwn4.out
     ·simpa using HMem4.out
     ·rw [List.map_append,List.map_append,HPl.out];simp only [List.map_cons,List.map_nil,qb3];congr 3;omega
     ·rw [HEq.out,HT.out,Py.preP_pre,←HSk2.out,HLr.out];rfl
    case measure=>
     have e1:=HPos.out
     have e2:=HPos4.out
     rw [e1,e2];omega
  ·have hd:((q:Int)==(s.size:Int))=true:=by simp;omega
   have HT:Hid (Py.topP (2*s.size+2) (L s 0)=.inr (ts,[])):=by
    show _=_
    rw [HEq.out,top_end f _ (qgz s q (by omega))];simp [Py.preP]
   obtain⟨a,cap,rfl⟩:=qof HOwn.out
   go_wp2_with (go_at_call 87;refine(qah w.heap.size s q 0 _ HRq.out).mono ?_;rintro e w' ⟨rfl,n1,rfl⟩)
   go_ret2
   rw [HT.out]
   exact⟨(HO.out.drewN _).below (Nat.le_refl _) (Nat.le_refl _),es,a,cap,rfl,qdj (qeh HOwn.out ((Only.refl w.heap.size wr).drewN n1) (by omega)) (Nat.le_succ _),(HMem.out.only ((Only.refl w.heap.size wr).drewN n1) (by omega)).turn' (Nat.le_succ _),HPl.out,by omega⟩
end Rd
end
section
open Go.RowKit Go.Shelf
def Mt (b:Nat) (t mo out:Int) (w:World):Prop:=w.heap[b]? =some (.cells #[.int .i64 t,.int .i64 mo,.int .i64 out] 164 (0,0))
theorem Mt.c0 {b:Nat} {t mo out:Int} {w:World} (h:Mt b t mo out w):w.cell? ⟨b,0,none⟩=some (.int .i64 t):=by unfold Mt at h;simp [World.cell?,h]
theorem Mt.c1 {b:Nat} {t mo out:Int} {w:World} (h:Mt b t mo out w):w.cell? ⟨b,1,none⟩=some (.int .i64 mo):=by unfold Mt at h;simp [World.cell?,h]
theorem Mt.c2 {b:Nat} {t mo out:Int} {w:World} (h:Mt b t mo out w):w.cell? ⟨b,2,none⟩=some (.int .i64 out):=by unfold Mt at h;simp [World.cell?,h]
theorem Mt.fz {b:Nat} {t mo out:Int} {w:World} (h:Mt b t mo out w) (o:Nat):w.frozen? ⟨b,o,none⟩=false:=by unfold Mt at h;simp [World.frozen?,h]
theorem Mt.lt {b:Nat} {t mo out:Int} {w:World} (h:Mt b t mo out w):b<w.heap.size:=(Array.getElem?_eq_some_iff.1 h).1
abbrev stopV (vd:Int):Value:=.iface 166 (.agg #[.int .i64 vd,.string ⟨#[]⟩])
theorem qba (b:Nat) (t mo out n:Int) (w:World) (h:Mt b t mo out w) (h0:0≤t) (h1:t+n≤mo) (hn:0≤n) (hm:mo≤1000000):
  Calls prog 200 #[.pointer (some ⟨b,0,none⟩),.int .i64 n] w fun e w'=>e=.returned (.tuple #[])∧∃k,w'=(w.setCell ⟨b,0,none⟩ (.int .i64 (t+n))).drewN k:=by
 have c0:=h.c0
 have c1:=h.c1
 have hf:=h.fz 0
 have HM:=hZ h
 clear h
 have hq:¬(mo-t<n):=by omega
 go_enter func200,ntmps200
 go_wp2
 go_quiet (fail)
 go_wp2
 go_end0
 exact⟨rfl,nq,rfl⟩
theorem qbq {B:Nat} {a b:World} (h:Below B a b) (n:Nat):Below B a (b.drewN n):=⟨h.os,h.tape,h.output,h.size,h.block⟩
structure Lk (W w:World):Prop where
 heap:w.heap=W.heap
 tape:w.tape=W.tape
 os:w.os=W.os
 output:w.output=W.output
abbrev stopP (v:Value):List PanicEntry:=[{v:=v,recovered:=false}]
theorem qc6 (n:Int) (w:World):Calls prog 131 #[.int .i64 n] w fun e w'=>e=.returned (.agg #[.int .i64 n,.string ⟨#[]⟩])∧∃o,w'=w.alloc o:=by
 go_enter func131,ntmps131
 go_wp2
 refine bodyPost_ret (v:=.agg #[.int .i64 n,.string ⟨#[]⟩]) (by simp [results,results131,go_sem, *]) rfl ?_
 exact⟨rfl,_,rfl⟩
theorem qa1 (b:Nat) (t mo out n:Int) (w:World) (h:Mt b t mo out w) (h0:0≤t) (h1:mo<t+n) (_hn:0≤n) (ht:t≤mo) (hm:mo≤1000000):
  Calls prog 200 #[.pointer (some ⟨b,0,none⟩),.int .i64 n] w fun e w'=>e=.panicked (stopP (stopV out))∧Below w.heap.size (w.setCell ⟨b,0,none⟩ (.int .i64 mo)) w':=by
 have c0:=h.c0
 have c1:=h.c1
 have c2:=h.c2
 have hf:=h.fz 0
 have HM:=hZ h
 clear h
 have hq:mo-t<n:=by omega
 go_enter func200,ntmps200
 go_wp2
 go_quiet (fail)
 go_wp2_with (go_at_call 131;refine(qc6 _ _).mono ?_;rintro e w2 ⟨rfl,o,rfl⟩)
 exact⟨rfl,rfl,((qbq (Below.refl w.heap.size _) nq)).alloc (by simp) _⟩
theorem qbi (n:Int) (w:World):Calls prog 273 #[.bool true,.int .i64 n] w fun e w'=>e=.returned (.tuple #[])∧w'=w:=by
 go_enter func273,ntmps273
 go_wp2
 go_end0
 exact⟨rfl,rfl⟩
theorem qbh (n:Int) (w:World):Calls prog 273 #[.bool false,.int .i64 n] w fun e w'=>e=.panicked (stopP (stopV n))∧∃o,w'=w.alloc o:=by
 go_enter func273,ntmps273
 go_wp2_with (go_at_call 131;refine(qc6 _ _).mono ?_;rintro e w2 ⟨rfl,o,rfl⟩)
 exact⟨rfl,rfl,o,rfl⟩
theorem qa6 {w:World} (n:Nat) (p:Addr):(w.drewN n).cell? p=w.cell? p:=rfl
theorem qag {w:World} {a p:Addr} {v:Value} (h:p.block≠a.block):(w.setCell a v).cell? p=w.cell? p:=
 World.cell?_of_block (w:=w) (Below.heap_setCell _ _ _ _ h)
theorem qac {w:World} {b o:Nat} {v:Value} (h:w.cell? ⟨b,o,none⟩=some v):b<w.heap.size:=by
 rcases Nat.lt_or_ge b w.heap.size with h'|h'
 ·exact h'
 ·rw [World.cell?]at h;simp [Array.getElem?_eq_none h']at h
theorem qad {w:World} {b o:Nat} (h:b<w.heap.size) (o0:Obj):(w.alloc o0).cell? ⟨b,o,none⟩=w.cell? ⟨b,o,none⟩:=World.cell?_of_block (w:=w) (Below.heap_alloc _ _ _ h)
theorem qau {w:World} {b o:Nat} (h:b<w.heap.size) (o0 o1:Obj):((w.alloc o0).alloc o1).cell? ⟨b,o,none⟩=w.cell? ⟨b,o,none⟩:=(qad (by simp;omega) _).trans (qad h _)
theorem qbp {w:World} {b o:Nat} (h:b<w.heap.size) (o0 o1 o2:Obj):(((w.alloc o0).alloc o1).alloc o2).cell? ⟨b,o,none⟩=w.cell? ⟨b,o,none⟩:=(qad (by simp;omega) _).trans (qau h _ _)
theorem qjx {w:World} {b o:Nat} (h:b<w.heap.size) (o0 o1 o2 o3:Obj):((((w.alloc o0).alloc o1).alloc o2).alloc o3).cell? ⟨b,o,none⟩=w.cell? ⟨b,o,none⟩:=(qad (by simp;omega) _).trans (qbp h _ _ _)
theorem qjw {w:World} {b o:Nat} (h:b<w.heap.size) (o0 o1 o2 o3 o4:Obj):(((((w.alloc o0).alloc o1).alloc o2).alloc o3).alloc o4).cell? ⟨b,o,none⟩=w.cell? ⟨b,o,none⟩:=(qad (by simp;omega) _).trans (qjx h _ _ _ _)
theorem qqy (mb sb pm pc k:Nat) (t mo:Int) (cp:Array Value) (pf:Option Addr) (ku:Nat) (cu:Array Value) (w:World) (Q:Ending→World→Prop)
  (eg:∀args w,(callFunc k args).run prog w=.ok (.enter k args) w)
  (hQ:∀e w,Q e w→(∃v,e=.returned v)∨(∃ps,e=.panicked ps))
  (h1:w.cell? ⟨pm,0,none⟩=some (.pointer (some ⟨mb,0,none⟩)))
  (h2:w.cell? ⟨mb,0,none⟩=some (.pointer (some ⟨sb,0,none⟩)))
  (h3:w.cell? ⟨pc,0,none⟩=some (.func (.func k) #[] cp))
  (hM:Mt sb t mo 10 w) (h0:0≤t) (ht:t+1≤mo) (hm:mo≤1000000) (hne:pc≠sb)
  (hK:∀w',Lk (w.setCell ⟨sb,0,none⟩ (.int .i64 (t+1))) w'→Calls prog k (#[.pointer pf,.func (.func ku) #[] cu]++cp) w' Q):
  Calls prog 376 #[.pointer pf,.func (.func ku) #[] cu,.pointer (some ⟨pm,0,none⟩),.pointer (some ⟨pc,0,none⟩)] w Q:=by
 have HK:=hZ hK
 have HQ:=hZ hQ
 have k3:∀n,((w.setCell ⟨sb,0,none⟩ (.int .i64 (t+1))).drewN n).cell? ⟨pc,0,none⟩=some (.func (.func k) #[] cp):=fun n=>by
  rw [qa6,qag hne];exact h3
 have HT:=hZ (qba sb t mo 10 1 w hM h0 ht (by omega) hm)
 clear hK hQ hM
 go_enter func376,ntmps376
 go_wp2_with (go_at_call 200;refine HT.out.mono ?_;rintro e w2 ⟨rfl,n,rfl⟩)
 go_wp2_with (go_at_fn k;refine(HK.out _ (by exact⟨rfl,rfl,rfl,rfl⟩)).mono ?_;intro e w2 hq)
 all_goals first|exact hq|exact⟨rfl,hq⟩|(rcases HQ.out _ _ hq with⟨v,h⟩|⟨ps,h⟩ <;> cases h)|trace_state
theorem seq1 (p2 p3:Nat) (pf:Option Addr) (ku:Nat) (cu:Array Value) (k:Nat) (cp:Array Value) (w:World) (Q:Ending→World→Prop)
  (eg:∀args w,(callFunc k args).run prog w=.ok (.enter k args) w)
  (hQ:∀e w,Q e w→(∃v,e=.returned v)∨(∃ps,e=.panicked ps))
  (h2:w.cell? ⟨p2,0,none⟩=some (.func (.func k) #[] cp))
  (hK:∀w',Lk ((w.alloc (.cells #[.pointer pf] 378)).alloc (.cells #[.func (.func ku) #[] cu] 295)) w'→Calls prog k (#[.pointer pf,.func (.func 385) #[] #[.pointer (some ⟨p3,0,none⟩),.pointer (some ⟨w.heap.size,0,none⟩),.pointer (some ⟨w.heap.size+1,0,none⟩)]]++cp) w' Q):
  Calls prog 384 #[.pointer pf,.func (.func ku) #[] cu,.pointer (some ⟨p2,0,none⟩),.pointer (some ⟨p3,0,none⟩)] w Q:=by
 have HK:=hZ hK
 have HQ:=hZ hQ
 have h2_1:∀o0:Obj,(w.alloc o0).cell? ⟨p2,0,none⟩=some (.func (.func k) #[] cp):=fun o0=>by
  rw [←h2];exact qad (qac h2) o0
 have h2_2:∀o0 o1:Obj,((w.alloc o0).alloc o1).cell? ⟨p2,0,none⟩=some (.func (.func k) #[] cp):=fun o0 o1=>by
  rw [←h2];exact qau (qac h2) o0 o1
 clear hK hQ
 go_enter func384,ntmps384
 go_wp2_with (go_at_fn k;refine(HK.out _ (by exact⟨rfl,rfl,rfl,rfl⟩)).mono ?_;intro e w2 hq)
 all_goals first|exact hq|exact⟨rfl,hq⟩|(rcases HQ.out _ _ hq with⟨v,h⟩|⟨ps,h⟩ <;> cases h)
theorem seq11 (v:Value) (p1 p2 p3:Nat) (pf:Option Addr) (ku:Nat) (cu:Array Value) (k:Nat) (cp:Array Value) (w:World) (Q:Ending→World→Prop)
  (eg:∀args w,(callFunc k args).run prog w=.ok (.enter k args) w)
  (hQ:∀e w,Q e w→(∃v,e=.returned v)∨(∃ps,e=.panicked ps))
  (h1:w.cell? ⟨p1,0,none⟩=some (.func (.func k) #[] cp))
  (h2:w.cell? ⟨p2,0,none⟩=some (.pointer pf))
  (h3:w.cell? ⟨p3,0,none⟩=some (.func (.func ku) #[] cu))
  (hK:∀w',Lk w w'→Calls prog k (#[.pointer pf,.func (.func ku) #[] cu]++cp) w' Q):
  Calls prog 385 #[v,.pointer (some ⟨p1,0,none⟩),.pointer (some ⟨p2,0,none⟩),.pointer (some ⟨p3,0,none⟩)] w Q:=by
 have HK:=hZ hK
 have HQ:=hZ hQ
 clear hK hQ
 go_enter func385,ntmps385
 go_wp2_with (go_at_fn k;refine(HK.out _ (by exact⟨rfl,rfl,rfl,rfl⟩)).mono ?_;intro e w2 hq)
 all_goals first|exact hq|exact⟨rfl,hq⟩|(rcases HQ.out _ _ hq with⟨v,h⟩|⟨ps,h⟩ <;> cases h)
theorem if1 (p2 p3 p4:Nat) (pf:Option Addr) (ku:Nat) (cu:Array Value) (k:Nat) (cp:Array Value) (w:World) (Q:Ending→World→Prop)
  (eg:∀args w,(callFunc k args).run prog w=.ok (.enter k args) w)
  (hQ:∀e w,Q e w→(∃v,e=.returned v)∨(∃ps,e=.panicked ps))
  (h2:w.cell? ⟨p2,0,none⟩=some (.func (.func k) #[] cp))
  (hK:∀w',Lk ((w.alloc (.cells #[.pointer pf] 378)).alloc (.cells #[.func (.func ku) #[] cu] 295)) w'→Calls prog k (#[.pointer pf,.func (.func 399) #[] #[.pointer (some ⟨p3,0,none⟩),.pointer (some ⟨w.heap.size,0,none⟩),.pointer (some ⟨w.heap.size+1,0,none⟩),.pointer (some ⟨p4,0,none⟩)]]++cp) w' Q):
  Calls prog 398 #[.pointer pf,.func (.func ku) #[] cu,.pointer (some ⟨p2,0,none⟩),.pointer (some ⟨p3,0,none⟩),.pointer (some ⟨p4,0,none⟩)] w Q:=by
 have HK:=hZ hK
 have HQ:=hZ hQ
 have h2_1:∀o0:Obj,(w.alloc o0).cell? ⟨p2,0,none⟩=some (.func (.func k) #[] cp):=fun o0=>by
  rw [←h2];exact qad (qac h2) o0
 have h2_2:∀o0 o1:Obj,((w.alloc o0).alloc o1).cell? ⟨p2,0,none⟩=some (.func (.func k) #[] cp):=fun o0 o1=>by
  rw [←h2];exact qau (qac h2) o0 o1
 clear hK hQ
 go_enter func398,ntmps398
 go_wp2_with (go_at_fn k;refine(HK.out _ (by exact⟨rfl,rfl,rfl,rfl⟩)).mono ?_;intro e w2 hq)
 all_goals first|exact hq|exact⟨rfl,hq⟩|(rcases HQ.out _ _ hq with⟨v,h⟩|⟨ps,h⟩ <;> cases h)
theorem set1 (p2 p3:Nat) (pf:Option Addr) (ku:Nat) (cu:Array Value) (k:Nat) (cp:Array Value) (w:World) (Q:Ending→World→Prop)
  (eg:∀args w,(callFunc k args).run prog w=.ok (.enter k args) w)
  (hQ:∀e w,Q e w→(∃v,e=.returned v)∨(∃ps,e=.panicked ps))
  (h2:w.cell? ⟨p2,0,none⟩=some (.func (.func k) #[] cp))
  (hK:∀w',Lk ((w.alloc (.cells #[.pointer pf] 378)).alloc (.cells #[.func (.func ku) #[] cu] 295)) w'→Calls prog k (#[.pointer pf,.func (.func 356) #[] #[.pointer (some ⟨p3,0,none⟩),.pointer (some ⟨w.heap.size,0,none⟩),.pointer (some ⟨w.heap.size+1,0,none⟩)]]++cp) w' Q):
  Calls prog 355 #[.pointer pf,.func (.func ku) #[] cu,.pointer (some ⟨p2,0,none⟩),.pointer (some ⟨p3,0,none⟩)] w Q:=by
 have HK:=hZ hK
 have HQ:=hZ hQ
 have h2_1:∀o0:Obj,(w.alloc o0).cell? ⟨p2,0,none⟩=some (.func (.func k) #[] cp):=fun o0=>by
  rw [←h2];exact qad (qac h2) o0
 have h2_2:∀o0 o1:Obj,((w.alloc o0).alloc o1).cell? ⟨p2,0,none⟩=some (.func (.func k) #[] cp):=fun o0 o1=>by
  rw [←h2];exact qau (qac h2) o0 o1
 clear hK hQ
 go_enter func355,ntmps355
 go_wp2_with (go_at_fn k;refine(HK.out _ (by exact⟨rfl,rfl,rfl,rfl⟩)).mono ?_;intro e w2 hq)
 all_goals first|exact hq|exact⟨rfl,hq⟩|(rcases HQ.out _ _ hq with⟨v,h⟩|⟨ps,h⟩ <;> cases h)
end
section
open Go.RowKit Go.Shelf
theorem qsx (d tx ty:Nat) (vx vy:Value) (h:tx≠ty) (w:World):(Op.equalIn (d+1) 116 (.iface tx vx) (.iface ty vy)).run prog w=.ok false w:=by
 simp [Op.equalIn,run_underlying underlying116,h]
theorem qaw (tx ty:Nat) (vx vy:Value) (h:tx≠ty) (w:World):(binOp .eql 116 (.iface tx vx) (.iface ty vy)).run prog w=.ok (.bool false) w:=by
 have e':(Op.equal 116 (.iface tx vx) (.iface ty vy)).run prog w=.ok false w:=qsx 9999 tx ty vx vy h w
 simp [binOp,e']
theorem qb2 (tx:Nat) (vx vy:Value) (r:Bool) (w w':World) (h:∀d,(Op.equalIn (d+1+1) 116 (.iface tx vx) (.iface tx vy)).run prog w=.ok r w'):(binOp .eql 116 (.iface tx vx) (.iface tx vy)).run prog w=.ok (.bool r) w':=by
 have e':(Op.equal 116 (.iface tx vx) (.iface tx vy)).run prog w=.ok r w':=h 9998
 simp [binOp,e']
theorem cmp180:Tryz.t180.comparable=true:=by kernel_rfl
theorem cmp181:Tryz.t181.comparable=true:=by kernel_rfl
theorem cmp182:Tryz.t182.comparable=true:=by kernel_rfl
theorem cmp183:Tryz.t183.comparable=true:=by kernel_rfl
theorem cmp186:Tryz.t186.comparable=true:=by kernel_rfl
theorem cmp379:Tryz.t379.comparable=true:=by kernel_rfl
theorem cmp246:Tryz.t246.comparable=true:=by kernel_rfl
theorem cmp281:Tryz.t281.comparable=true:=by kernel_rfl
theorem cmp285:Tryz.t285.comparable=true:=by kernel_rfl
theorem cmp322:Tryz.t322.comparable=true:=by kernel_rfl
theorem qst (a b:Int) (w:World):(binOp .eql 116 (.iface 180 (.int .i64 a)) (.iface 180 (.int .i64 b))).run prog w=.ok (.bool (a==b)) w:=
 qb2 180 _ _ _ w w fun d=>by simp [Op.equalIn,run_underlying underlying116,run_underlying underlying180,cmp180]
theorem qdd (a b:Bool) (w:World):(binOp .eql 116 (.iface 181 (.bool a)) (.iface 181 (.bool b))).run prog w=.ok (.bool (a==b)) w:=
 qb2 181 _ _ _ w w fun d=>by simp [Op.equalIn,run_underlying underlying116,run_underlying underlying181,cmp181]
theorem qss (a b:ByteArray) (w:World):(binOp .eql 116 (.iface 182 (.string a)) (.iface 182 (.string b))).run prog w=.ok (.bool (a==b)) w:=
 qb2 182 _ _ _ w w fun d=>by simp [Op.equalIn,run_underlying underlying116,run_underlying underlying182,cmp182]
theorem qsr (a b:ByteArray) (w:World):(binOp .eql 116 (.iface 183 (.string a)) (.iface 183 (.string b))).run prog w=.ok (.bool (a==b)) w:=
 qb2 183 _ _ _ w w fun d=>by simp [Op.equalIn,run_underlying underlying116,run_underlying underlying183,cmp183]
theorem qkv (w:World):(binOp .eql 116 (.iface 186 (.agg #[])) (.iface 186 (.agg #[]))).run prog w=.ok (.bool true) w:=
 qb2 186 _ _ _ w w fun d=>by simp [Op.equalIn,run_underlying underlying116,run_underlying underlying186,cmp186]
theorem qpe (w:World):(binOp .eql 116 (.iface 379 (.agg #[])) (.iface 379 (.agg #[]))).run prog w=.ok (.bool true) w:=
 qb2 379 _ _ _ w w fun d=>by simp [Op.equalIn,run_underlying underlying116,run_underlying underlying379,cmp379]
end
section
open Go.RowKit Go.Shelf
theorem is180 (v:Value) (w:World):(Instr.typeAssert (.iface 180 v) 116 180 true).run prog w=.ok (.tuple #[v,.bool true]) w:=by kernel_rfl
theorem qbx (t:Nat) (v:Value) (h:t≠180) (w:World):(Instr.typeAssert (.iface t v) 116 180 true).run prog w=.ok (.tuple #[.int .i64 0,.bool false]) w:=by
 simp [Instr.typeAssert,run_underlying underlying180,h,go_sem]
theorem is181 (v:Value) (w:World):(Instr.typeAssert (.iface 181 v) 116 181 true).run prog w=.ok (.tuple #[v,.bool true]) w:=by kernel_rfl
theorem qcf (t:Nat) (v:Value) (h:t≠181) (w:World):(Instr.typeAssert (.iface t v) 116 181 true).run prog w=.ok (.tuple #[.bool false,.bool false]) w:=by
 simp [Instr.typeAssert,run_underlying underlying181,h,go_sem]
theorem is182 (v:Value) (w:World):(Instr.typeAssert (.iface 182 v) 116 182 true).run prog w=.ok (.tuple #[v,.bool true]) w:=by kernel_rfl
theorem qce (t:Nat) (v:Value) (h:t≠182) (w:World):(Instr.typeAssert (.iface t v) 116 182 true).run prog w=.ok (.tuple #[.string ⟨#[]⟩,.bool false]) w:=by
 simp [Instr.typeAssert,run_underlying underlying182,h,go_sem]
theorem is183 (v:Value) (w:World):(Instr.typeAssert (.iface 183 v) 116 183 true).run prog w=.ok (.tuple #[v,.bool true]) w:=by kernel_rfl
theorem qcl (t:Nat) (v:Value) (h:t≠183) (w:World):(Instr.typeAssert (.iface t v) 116 183 true).run prog w=.ok (.tuple #[.string ⟨#[]⟩,.bool false]) w:=by
 simp [Instr.typeAssert,run_underlying underlying183,h,go_sem]
theorem is186 (v:Value) (w:World):(Instr.typeAssert (.iface 186 v) 116 186 true).run prog w=.ok (.tuple #[v,.bool true]) w:=by kernel_rfl
theorem qc0 (t:Nat) (v:Value) (h:t≠186) (w:World):(Instr.typeAssert (.iface t v) 116 186 true).run prog w=.ok (.tuple #[.agg #[],.bool false]) w:=by
 simp [Instr.typeAssert,run_underlying underlying186,h,go_sem]
theorem qgj (v:Value) (w:World):(Instr.typeAssert (.iface 246 v) 116 246 true).run prog w=.ok (.tuple #[v,.bool true]) w:=by kernel_rfl
theorem qcd (t:Nat) (v:Value) (h:t≠246) (w:World):(Instr.typeAssert (.iface t v) 116 246 true).run prog w=.ok (.tuple #[.pointer none,.bool false]) w:=by
 simp [Instr.typeAssert,run_underlying underlying246,h,go_sem]
theorem qsd (v:Value) (w:World):(Instr.typeAssert (.iface 281 v) 116 281 true).run prog w=.ok (.tuple #[v,.bool true]) w:=by kernel_rfl
theorem qcz (t:Nat) (v:Value) (h:t≠281) (w:World):(Instr.typeAssert (.iface t v) 116 281 true).run prog w=.ok (.tuple #[.pointer none,.bool false]) w:=by
 simp [Instr.typeAssert,run_underlying underlying281,h,go_sem]
theorem is285 (v:Value) (w:World):(Instr.typeAssert (.iface 285 v) 116 285 true).run prog w=.ok (.tuple #[v,.bool true]) w:=by kernel_rfl
theorem qjj (t:Nat) (v:Value) (h:t≠285) (w:World):(Instr.typeAssert (.iface t v) 116 285 true).run prog w=.ok (.tuple #[.pointer none,.bool false]) w:=by
 simp [Instr.typeAssert,run_underlying underlying285,h,go_sem]
theorem is322 (v:Value) (w:World):(Instr.typeAssert (.iface 322 v) 116 322 true).run prog w=.ok (.tuple #[v,.bool true]) w:=by kernel_rfl
theorem isnt322 (t:Nat) (v:Value) (h:t≠322) (w:World):(Instr.typeAssert (.iface t v) 116 322 true).run prog w=.ok (.tuple #[.pointer none,.bool false]) w:=by
 simp [Instr.typeAssert,run_underlying underlying322,h,go_sem]
end
section
open Go.RowKit Go.Shelf
theorem qme (p1 p2 p3 p4:Nat) (pf:Option Addr) (ku:Nat) (cu:Array Value) (k:Nat) (cp:Array Value) (w:World) (Q:Ending→World→Prop)
  (eg:∀args w,(callFunc k args).run prog w=.ok (.enter k args) w)
  (hQ:∀e w,Q e w→(∃v,e=.returned v)∨(∃ps,e=.panicked ps))
  (h1:w.cell? ⟨p1,0,none⟩=some (.func (.func k) #[] cp))
  (h2:w.cell? ⟨p2,0,none⟩=some (.pointer pf))
  (h3:w.cell? ⟨p3,0,none⟩=some (.func (.func ku) #[] cu))
  (hK:∀w',Lk w w'→Calls prog k (#[.pointer pf,.func (.func ku) #[] cu]++cp) w' Q):
  Calls prog 399 #[.iface 181 (.bool false),.pointer (some ⟨p1,0,none⟩),.pointer (some ⟨p2,0,none⟩),.pointer (some ⟨p3,0,none⟩),.pointer (some ⟨p4,0,none⟩)] w Q:=by
 have HK:=hZ hK
 have HQ:=hZ hQ
 have he:∀w,(binOp BinOp.eql 116 (.iface 181 (.bool false)) (.iface 181 (.bool false))).run prog w=.ok (.bool true) w:=fun w=>qdd _ _ w
 clear hK hQ
 go_enter func399,ntmps399
 go_wp2_with (go_at_fn k;refine(HK.out _ (by exact⟨rfl,rfl,rfl,rfl⟩)).mono ?_;intro e w2 hq)
 all_goals first|exact hq|exact⟨rfl,hq⟩|(rcases HQ.out _ _ hq with⟨v,h⟩|⟨ps,h⟩ <;> cases h)
theorem qo4 (p1 p2 p3 p4:Nat) (pf:Option Addr) (ku:Nat) (cu:Array Value) (k:Nat) (cp:Array Value) (w:World) (Q:Ending→World→Prop)
  (eg:∀args w,(callFunc k args).run prog w=.ok (.enter k args) w)
  (hQ:∀e w,Q e w→(∃v,e=.returned v)∨(∃ps,e=.panicked ps))
  (h4:w.cell? ⟨p4,0,none⟩=some (.func (.func k) #[] cp))
  (h2:w.cell? ⟨p2,0,none⟩=some (.pointer pf))
  (h3:w.cell? ⟨p3,0,none⟩=some (.func (.func ku) #[] cu))
  (hK:∀w',Lk w w'→Calls prog k (#[.pointer pf,.func (.func ku) #[] cu]++cp) w' Q):
  Calls prog 399 #[.iface 181 (.bool true),.pointer (some ⟨p1,0,none⟩),.pointer (some ⟨p2,0,none⟩),.pointer (some ⟨p3,0,none⟩),.pointer (some ⟨p4,0,none⟩)] w Q:=by
 have HK:=hZ hK
 have HQ:=hZ hQ
 have he:∀w,(binOp BinOp.eql 116 (.iface 181 (.bool true)) (.iface 181 (.bool false))).run prog w=.ok (.bool false) w:=fun w=>qdd _ _ w
 clear hK hQ
 go_enter func399,ntmps399
 go_wp2_with (go_at_fn k;refine(HK.out _ (by exact⟨rfl,rfl,rfl,rfl⟩)).mono ?_;intro e w2 hq)
 all_goals first|exact hq|exact⟨rfl,hq⟩|(rcases HQ.out _ _ hq with⟨v,h⟩|⟨ps,h⟩ <;> cases h)
theorem qo5 (ty:Nat) (x:Value) (p1 p2 p3 p4:Nat) (pf:Option Addr) (ku:Nat) (cu:Array Value) (k:Nat) (cp:Array Value) (w:World) (Q:Ending→World→Prop)
  (eg:∀args w,(callFunc k args).run prog w=.ok (.enter k args) w)
  (hQ:∀e w,Q e w→(∃v,e=.returned v)∨(∃ps,e=.panicked ps))
  (h4:w.cell? ⟨p4,0,none⟩=some (.func (.func k) #[] cp))
  (h2:w.cell? ⟨p2,0,none⟩=some (.pointer pf))
  (h3:w.cell? ⟨p3,0,none⟩=some (.func (.func ku) #[] cu))
  (hty:ty≠181)
  (hK:∀w',Lk w w'→Calls prog k (#[.pointer pf,.func (.func ku) #[] cu]++cp) w' Q):
  Calls prog 399 #[.iface ty x,.pointer (some ⟨p1,0,none⟩),.pointer (some ⟨p2,0,none⟩),.pointer (some ⟨p3,0,none⟩),.pointer (some ⟨p4,0,none⟩)] w Q:=by
 have HK:=hZ hK
 have HQ:=hZ hQ
 have he:∀w,(binOp BinOp.eql 116 (.iface ty x) (.iface 181 (.bool false))).run prog w=.ok (.bool false) w:=fun w=>qaw _ _ _ _ hty w
 clear hK hQ
 go_enter func399,ntmps399
 go_wp2_with (go_at_fn k;refine(HK.out _ (by exact⟨rfl,rfl,rfl,rfl⟩)).mono ?_;intro e w2 hq)
 all_goals first|exact hq|exact⟨rfl,hq⟩|(rcases HQ.out _ _ hq with⟨v,h⟩|⟨ps,h⟩ <;> cases h)
theorem qnp (mb sb pm pc:Nat) (t:Int) (pf:Option Addr) (ku:Nat) (cu:Array Value) (w:World)
  (h1:w.cell? ⟨pm,0,none⟩=some (.pointer (some ⟨mb,0,none⟩)))
  (h2:w.cell? ⟨mb,0,none⟩=some (.pointer (some ⟨sb,0,none⟩)))
  (hM:Mt sb t t 10 w) (h0:0≤t) (hm:t≤1000000):
  Calls prog 376 #[.pointer pf,.func (.func ku) #[] cu,.pointer (some ⟨pm,0,none⟩),.pointer (some ⟨pc,0,none⟩)] w fun e w'=>e=.panicked (stopP (stopV 10))∧Below w.heap.size (w.setCell ⟨sb,0,none⟩ (.int .i64 t)) w':=by
 have HT:=hZ (qa1 sb t t 10 1 w hM h0 (by omega) (by omega) (by omega) hm)
 clear hM
 go_enter func376,ntmps376
 go_wp2_with (go_at_call 200;refine HT.out.mono ?_;rintro e w2 ⟨rfl,hb⟩)
 exact⟨rfl,rfl,hb⟩
theorem set11 (p1 p2 p3 ks:Nat) (cs:Array Value) (v:Value) (pf:Option Addr) (ku:Nat) (cu:Array Value) (w:World) (Q:Ending→World→Prop)
  (eg:∀args w,(callFunc ku args).run prog w=.ok (.enter ku args) w)
  (es:∀args w,(callFunc ks args).run prog w=.ok (.enter ks args) w)
  (hQ:∀e w,Q e w→(∃v,e=.returned v)∨(∃ps,e=.panicked ps))
  (h1:w.cell? ⟨p1,0,none⟩=some (.func (.func ks) #[] cs))
  (h2:w.cell? ⟨p2,0,none⟩=some (.pointer pf))
  (hS:Calls prog ks (#[.pointer pf,v]++cs) w fun e w1=>(e=.returned (.tuple #[])∧w1.cell? ⟨p3,0,none⟩=some (.func (.func ku) #[] cu)∧Calls prog ku (#[.iface 379 (.agg #[])]++cu) w1 Q)∨((∃ps,e=.panicked ps)∧Q e w1)):
  Calls prog 356 #[v,.pointer (some ⟨p1,0,none⟩),.pointer (some ⟨p2,0,none⟩),.pointer (some ⟨p3,0,none⟩)] w Q:=by
 have HS:=hZ hS
 have HQ:=hZ hQ
 clear hS hQ
 go_enter func356,ntmps356
 go_wp2_with (go_at_fn ks;refine HS.out.mono ?_;rintro e w1 (⟨rfl,h3,hk⟩|⟨⟨ps,rfl⟩,hq⟩))
 ·have HK:=hZ hk
  clear hk
  go_wp2_with (go_at_fn ku;refine HK.out.mono ?_;intro e w2 hq)
  all_goals first|exact hq|exact⟨rfl,hq⟩|(rcases HQ.out _ _ hq with⟨v,h⟩|⟨ps,h⟩ <;> cases h)
 ·exact⟨rfl,hq⟩
theorem app1 (p2 p3 mb g o n cap:Nat) (pf:Option Addr) (ku:Nat) (cu:Array Value) (w:World) (Q:Ending→World→Prop)
  (hQ:∀e w,Q e w→(∃v,e=.returned v)∨(∃ps,e=.panicked ps))
  (h2:w.cell? ⟨p2,0,none⟩=some (.pointer (some ⟨mb,0,none⟩)))
  (h3:w.cell? ⟨p3,0,none⟩=some (.slice (some ⟨g,o,none⟩) n cap))
  (hK:∀w',Lk (w.alloc (.cells #[.func (.func ku) #[] cu] 295)) w'→Calls prog 371 (#[.pointer (some ⟨mb,0,none⟩),.slice (some ⟨g,o,none⟩) n cap,.pointer pf,.pointer none,.func (.func 372) #[] #[.pointer (some ⟨p2,0,none⟩),.pointer (some ⟨w.heap.size,0,none⟩)]]) w' Q):
  Calls prog 370 #[.pointer pf,.func (.func ku) #[] cu,.pointer (some ⟨p2,0,none⟩),.pointer (some ⟨p3,0,none⟩)] w Q:=by
 have HK:=hZ hK
 have HQ:=hZ hQ
 have h2_1:∀o0:Obj,(w.alloc o0).cell? ⟨p2,0,none⟩=some (.pointer (some ⟨mb,0,none⟩)):=fun o0=>by
  rw [←h2];exact qad (qac h2) o0
 have h3_1:∀o0:Obj,(w.alloc o0).cell? ⟨p3,0,none⟩=some (.slice (some ⟨g,o,none⟩) n cap):=fun o0=>by
  rw [←h3];exact qad (qac h3) o0
 clear hK hQ
 go_enter func370,ntmps370
 go_wp2_with (go_at_call 371;refine(HK.out _ (by exact⟨rfl,rfl,rfl,rfl⟩)).mono ?_;intro e w2 hq)
 all_goals first|exact hq|exact⟨rfl,hq⟩|(rcases HQ.out _ _ hq with⟨v,h⟩|⟨ps,h⟩ <;> cases h)
end
end Go.Proofs.YtldaocpojcfljaaGreatDoor
