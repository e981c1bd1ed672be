import Derived.Test.YtldaocpojcfljaaGreatDoorD13
set_option maxRecDepth 100000
set_option maxHeartbeats 4000000
namespace Go.Proofs.YtldaocpojcfljaaGreatDoor
open Tryz hiding parts
open Go.RowKit Go.Shelf
section
open Sc
structure Rl where
 R:Gh->Macro->Value->Prop
 mono:∀{G H:Gh} {mc:Macro} {v:Value},G.le H->R G mc v->R H mc v
inductive McRows (R:Gh->Macro->Value->Prop) (G:Gh):List Macro->List (Bs×Value)->Prop where
 |nil:McRows R G [] []
 |cons (mc:Macro) (v:Value) (ms:List Macro) (L:List (Bs×Value)) (h:R G mc v) (hn:∀m,m∈ms->m.name≠mc.name) (hs:McRows R G ms L):McRows R G (mc::ms) ((mc.name,v)::L)
theorem McRows.mono{K:Rl}{G H:Gh}(h:G.le H):∀{ms L},McRows K.R G ms L->McRows K.R H ms L
 |_,_,.nil=>.nil
 |_,_,.cons mc v ms L a n b=>.cons mc v ms L (K.mono h a) n (McRows.mono h b)
structure XInv (K:Rl) (X:Xe) (G:Gh) (S:Sub) (x:Xs) (sc:Scope) (w:World):Prop where
 xe:G.I X.xb=some (.cells #[bp G.mb,bp X.rb,.map (some X.mm),bp X.ab] 331 (0,0))
 mt:Mt X.rb x.count S.rewrites 12 w
 ml:(x.count:Int)<=S.rewrites/\S.rewrites<=100000
 ab:w.heap[X.ab]? =some (.cells #[.int .i64 (sc.length:Int),.map (some X.bm)] 329 (0,0))
 bd:∃L,ScMap X sc w L/\∀b,b∈L.filterMap (·.2.ownBlock)->X.Rw b
 rr:∀b,X.Rw b->G.I b=none/\b∉G.mut/\X.lo<=b/\b<w.heap.size/\¬G.F b
 mc:∃es clock L,w.heap[X.mm]? =some (.map es clock)/\es.toList.map (fun e=>(e.key,e.val))=L.map (fun p=>(Value.string ⟨p.1.toArray⟩,p.2))/\McRows K.R G x.macros L
 lo:∀b,b∈[X.rb,X.mm,X.ab,X.bm]->G.I b=none/\b∉G.mut/\b<X.lo/\¬G.F b
 nd:[X.rb,X.mm,X.ab,X.bm].Nodup
 sl:X.lo<=w.heap.size
 sz:sc.length<=1000000000/\∀l,l∈sc->l.length<=1000000000
theorem XInv.mv{K:Rl}{X:Xe}{G H:Gh}{S:Sub}{x:Xs}{sc:Scope}{w w':World}(m:Mv G w H w')(i:XInv K X G S x sc w):XInv K X H S x sc w':=by
 have kb:∀b,b∈[X.rb,X.mm,X.ab,X.bm]->w'.heap[b]? =w.heap[b]?:=fun b hb=>by
  obtain⟨h1,h2,h3,_⟩:=i.lo b hb;exact m.blk (Nat.lt_of_lt_of_le h3 i.sl) h2
 have hH:∀b,b<w.heap.size->G.I b=none/\b∉G.mut->H.I b=none/\b∉H.mut:=fun b hb h=>⟨by rw[m.I hb];exact h.1,fun hm=>(m.mu hm).elim h.2 (fun h=>by omega)⟩
 obtain⟨L,hL,hLb⟩:=i.bd;obtain⟨es,clock,M,hm1,hm2,hm3⟩:=i.mc;refine⟨by rw[m.up.le.mb];exact m.up.le.I i.xe,i.mt.keep (kb _ (by simp)),i.ml,by rw[kb _ (by simp)];exact i.ab,⟨L,⟨?_,hL.2.1,fun p hp=>?_,hL.2.2.2⟩,hLb⟩,fun b hb=>?_,⟨es,clock,M,by rw[kb _ (by simp)];exact hm1,hm2,hm3.mono m.up.le⟩,fun b hb=>?_,i.nd,Nat.le_trans i.sl m.size,i.sz⟩
 ·rw[kb _ (by simp)];exact hL.1
 ·have ho:=hL.2.2.1 p hp;refine⟨ho.1,?_⟩;rcases ho.2 with h|⟨g,cap,cur,hv,hb,hg,hr⟩
  ·exact .inl h
  ·have hmem:g∈L.filterMap (·.2.ownBlock):=List.mem_filterMap.2 ⟨p,hp,by rw[hv];rfl⟩;exact .inr ⟨g,cap,cur,hv,hb,by rw[m.blk (Array.getElem?_eq_some_iff.1 hg).1 (i.rr g (hLb g hmem)).2.1];exact hg,hr⟩
 ·obtain⟨h1,h2,h3,h4,h5⟩:=i.rr b hb;have:=hH b h4 ⟨h1,h2⟩;exact⟨this.1,this.2,h3,Nat.lt_of_lt_of_le h4 m.size,by rw[m.up.F];exact h5⟩
 ·obtain⟨h1,h2,h3,h4⟩:=i.lo b hb;have:=hH b (Nat.lt_of_lt_of_le h3 i.sl) ⟨h1,h2⟩;exact⟨this.1,this.2,h3,by rw[m.up.F];exact h4⟩
theorem XInv.below{K:Rl}{X:Xe}{G:Gh}{S:Sub}{x:Xs}{sc:Scope}{w w':World}(i:XInv K X G S x sc w)(h:Below w.heap.size w w'):XInv K X G S x sc w':=i.mv (Mv.ext (Gh.ext.refl _ _) h)
def findV(i:Sc.Id)(sc:Scope):Value:=match find i sc with
 |some (u,n)=>.tuple #[.agg #[.int .i64 (u:Int),.int .i64 (n:Int)],.bool true]
 |none=>.tuple #[.agg #[.int .i64 0,.int .i64 0],.bool false]
theorem qsp{K:Rl}{X:Xe}{G:Gh}{S:Sub}{x:Xs}{sc:Scope}{w:World}(i:XInv K X G S x sc w)(t:ByteArray)(m:Int):
  Calls prog 354 #[bp X.ab,idV t m] w fun e w'=>e=.returned (findV (t.data.toList,m) sc)/\Below w.heap.size w w':=by
 obtain⟨L,hL,hLb⟩:=i.bd;obtain⟨⟨es,clock,hb1,hb2,_⟩,hnd,hown,hnone,hblk⟩:=hL;have c0:w.cell? ⟨X.ab,0,none⟩=some (.int .i64 (sc.length:Int)):=by simp[World.cell?,i.ab]
 have c1:w.cell? ⟨X.ab,1,none⟩=some (.map (some X.bm)):=by simp[World.cell?,i.ab]
 have hbl:X.bm<w.heap.size:=(Array.getElem?_eq_some_iff.1 hb1).1;have hlk:∀w',w'.heap[X.bm]? =w.heap[X.bm]?->(Instr.lookup 327 (.map (some X.bm)) (idV t m) false).run prog w'=.ok ((lookI (t.data.toList,m) L).getD (.slice none 0 0)) w':=fun w' hw=>qen X.bm es clock L t m w' (hw.trans hb1) hb2
 have none':spots (t.data.toList,m) sc=[]->(∃a cap,(lookI (t.data.toList,m) L).getD (.slice none 0 0)=.slice a 0 cap)->Calls prog 354 #[bp X.ab,idV t m] w fun e w'=>e=.returned (findV (t.data.toList,m) sc)/\Below w.heap.size w w':=fun hs ⟨a,cap,hv⟩=>by
  rw[hv]at hlk;refine Calls.mono (qh0 X.ab X.bm cap a 0 t m w c1 hbl hlk) ?_;rintro e w' ⟨rfl,hb⟩;refine⟨?_,hb⟩;have:find (t.data.toList,m) sc=none:=by rw[qdp,hs];rfl
  simp[findV,this]
 cases hl:lookI (t.data.toList,m) L with
 |none=>exact none' (hnone _ hl) ⟨none,0,by rw[hl];rfl⟩
 |some v=>
  have ho:=hown _ (qb5 hl);simp only at ho;rcases ho.2 with⟨hv,h0⟩|⟨g,cap,cur,hv,hb,hg,hn,hm,hsz,htk⟩
  ·exact none' (List.eq_nil_of_length_eq_zero h0) ⟨none,0,by rw[hl,hv];rfl⟩
  ·cases hs:(spots (t.data.toList,m) sc).reverse with
   |nil=>
    have hs':spots (t.data.toList,m) sc=[]:=by simpa using hs
    exact none' hs' ⟨some ⟨g,0,none⟩,cap,by rw[hl,hv,hs'];rfl⟩
   |cons p r=>
    have hs':spots (t.data.toList,m) sc=r.reverse++[p]:=by rw[<-List.reverse_reverse (spots _ _),hs];simp
    have hlen:(spots (t.data.toList,m) sc).length=r.length+1:=by rw[hs'];simp
    have hp:(spots (t.data.toList,m) sc)[r.length]? =some p:=by rw[hs'];simp
    obtain⟨s0,s1⟩:=qg7 _ _ _ hp;have hle:=qf3 (i:=(t.data.toList,m)) (sc:=sc) (p:=p) (by rw[hs'];simp);have cc:∀k v,(spotCells (spots (t.data.toList,m) sc))[k]? =some v->w.cell? ⟨g,k,none⟩=some v:=fun k v hk=>by
     rw[<-htk,List.getElem?_take]at hk;split at hk
     ·simp only[World.cell?,hg];simpa using hk
     ·cases hk
    have hlk':∀w',w'.heap[X.bm]? =w.heap[X.bm]?->(Instr.lookup 327 (.map (some X.bm)) (idV t m) false).run prog w'=.ok (.slice (some ⟨g,0,none⟩) (r.length+1) cap) w':=fun w' hw=>by
     rw[hlk w' hw,hl,hv,hlen];rfl
    have hrl:r.length+1<=sc.length:=by
     rw[<-hlen];exact qea _ _
    have:=i.sz.1;refine Calls.mono (qhz X.ab X.bm cap g r.length sc.length p.1 p.2 t m w c0 c1 hbl hlk' (cc _ _ (by rw[Nat.mul_comm];exact s0)) (cc _ _ (by rw[Nat.mul_comm];exact s1)) (by omega) (by omega) (by omega)) ?_;rintro e w' ⟨rfl,hb'⟩;refine⟨?_,hb'⟩;have hf:find (t.data.toList,m) sc=some (sc.length-p.1,p.2):=by rw[qdp,hs'];simp
    have e1:((sc.length-p.1:Nat):Int)=(sc.length:Int)-p.1:=by omega
    simp only[findV,hf,e1]
structure Mx (X:Xe) (G:Gh) (w:World) (Y:Xe) (H:Gh) (w':World):Prop where
 same:Y.xb=X.xb/\Y.rb=X.rb/\Y.mm=X.mm/\Y.ab=X.ab/\Y.bm=X.bm/\Y.lo=X.lo
 up:G.up H
 I:∀{b:Nat},b<w.heap.size->H.I b=G.I b
 mu:∀{b:Nat},b∈H.mut->b∈G.mut\/w.heap.size<=b
 rw:∀{b:Nat},Y.Rw b->X.Rw b\/w.heap.size<=b
 blk:∀{k:Nat},k<w.heap.size->k∉G.mut->k∉[X.rb,X.mm,X.ab,X.bm]->¬X.Rw k->w'.heap[k]? =w.heap[k]?
 size:w.heap.size<=w'.heap.size
theorem Mx.of{X:Xe}{G H:Gh}{w w':World}(m:Mv G w H w'):Mx X G w X H w':=⟨⟨rfl,rfl,rfl,rfl,rfl,rfl⟩,m.up,m.I,m.mu,.inl,fun h1 h2 _ _=>m.blk h1 h2,m.size⟩
theorem Mx.refl(X:Xe)(G:Gh)(w:World):Mx X G w X G w:=Mx.of (Mv.refl G w)
theorem Mx.trans{X Y Z:Xe}{G H L:Gh}{w w1 w2:World}(a:Mx X G w Y H w1)(b:Mx Y H w1 Z L w2):Mx X G w Z L w2:=by
 obtain⟨s1,s2,s3,s4,s5,s6⟩:=a.same;obtain⟨t1,t2,t3,t4,t5,t6⟩:=b.same;refine⟨⟨t1.trans s1,t2.trans s2,t3.trans s3,t4.trans s4,t5.trans s5,t6.trans s6⟩,a.up.trans b.up,fun h=>(b.I (Nat.lt_of_lt_of_le h a.size)).trans (a.I h),fun h=>(b.mu h).elim a.mu (fun h=>.inr (Nat.le_trans a.size h)),fun h=>(b.rw h).elim a.rw (fun h=>.inr (Nat.le_trans a.size h)),fun {k} h1 h2 h3 h4=>?_,Nat.le_trans a.size b.size⟩;rw[b.blk (Nat.lt_of_lt_of_le h1 a.size) (fun h=>(a.mu h).elim h2 (fun h=>by omega)) (by rw[s2,s3,s4,s5];exact h3) (fun h=>(a.rw h).elim h4 (fun h=>by omega)),a.blk h1 h2 h3 h4]
theorem Mx.lk{X Y:Xe}{G H:Gh}{w w1 w2:World}(a:Mx X G w Y H w1)(h:Lk w1 w2):Mx X G w Y H w2:=⟨a.same,a.up,a.I,a.mu,a.rw,fun h1 h2 h3 h4=>by rw[h.heap];exact a.blk h1 h2 h3 h4,by rw[h.heap];exact a.size⟩
end
section
open Sc
theorem qam(w:World):Calls prog 290 #[.bool true] w fun e w'=>e=.returned (.tuple #[])/\w'=w:=by
 go_enter func290,ntmps290
 go_wp2_with (go_at_call 273;refine(qbi _ _).mono ?_;rintro e w2 ⟨rfl,hww⟩;obtain rfl:=hww.symm)
 go_end0;exact⟨rfl,rfl⟩
theorem qax(w:World):Calls prog 290 #[.bool false] w fun e w'=>e=.panicked (stopP (stopV 4))/\∃o,w'=w.alloc o:=by
 go_enter func290,ntmps290
 go_wp2_with (go_at_call 273;refine(qbh _ _).mono ?_;rintro e w2 ⟨rfl,o,rfl⟩)
 exact⟨rfl,rfl,o,rfl⟩
theorem qa9(t:ByteArray)(l:List UInt8):(t.toList==l)=decide (t.data.toList=l):=by
 rw[ByteArray.toList_eq];by_cases h:t.data.toList=l <;> simp[h]
theorem qo0(s:Bs):(Kw.of s).isSome=(decide (s=[113,117,111,116,101])||decide (s=[105,102])||decide (s=[100,101,102,105,110,101])||decide (s=[115,101,116,33])||decide (s=[108,97,109,98,100,97])||decide (s=[108,101,116])||decide (s=[98,101,103,105,110])||decide (s=[100,101,102,105,110,101,45,115,121,110,116,97,120])):=by
 unfold Kw.of;by_cases h1:s=[113,117,111,116,101]
 ·simp[h1]
 by_cases h2:s=[105,102]
 ·simp[h2]
 by_cases h3:s=[100,101,102,105,110,101]
 ·simp[h3]
 by_cases h4:s=[115,101,116,33]
 ·simp[h4]
 by_cases h5:s=[108,97,109,98,100,97]
 ·simp[h5]
 by_cases h6:s=[108,101,116]
 ·simp[h6]
 by_cases h7:s=[98,101,103,105,110]
 ·simp[h7]
 by_cases h8:s=[100,101,102,105,110,101,45,115,121,110,116,97,120]
 ·simp[h8]
 simp[h1,h2,h3,h4,h5,h6,h7,h8]
theorem qgi(t:ByteArray)(w:World):Calls prog 320 #[.string t] w fun e w'=>e=.returned (.bool (Kw.of t.data.toList).isSome)/\Lk w w':=by
 rw[qo0];have h1:=qa9 t [113,117,111,116,101];have h2:=qa9 t [105,102];have h3:=qa9 t [100,101,102,105,110,101];have h4:=qa9 t [115,101,116,33];have h5:=qa9 t [108,97,109,98,100,97];have h6:=qa9 t [108,101,116];have h7:=qa9 t [98,101,103,105,110];have h8:=qa9 t [100,101,102,105,110,101,45,115,121,110,116,97,120];generalize decide (t.data.toList=[113,117,111,116,101])=b1 at h1|-;generalize decide (t.data.toList=[105,102])=b2 at h2|-;generalize decide (t.data.toList=[100,101,102,105,110,101])=b3 at h3|-;generalize decide (t.data.toList=[115,101,116,33])=b4 at h4|-;generalize decide (t.data.toList=[108,97,109,98,100,97])=b5 at h5|-;generalize decide (t.data.toList=[108,101,116])=b6 at h6|-;generalize decide (t.data.toList=[98,101,103,105,110])=b7 at h7|-;generalize decide (t.data.toList=[100,101,102,105,110,101,45,115,121,110,116,97,120])=b8 at h8|-;go_enter func320,ntmps320
 go_wp2;all_goals clear h1 h2 h3 h4 h5 h6 h7 h8
 all_goals go_ret
 all_goals first
  |(exfalso;simp_all;done)
  |(refine⟨?_,rfl,rfl,rfl,rfl⟩;simp_all)
theorem qbt(xn:Int)(xtr:Bool)(xtx:ByteArray)(xm:Int)(xa:Option Addr)(xlen xcap:Nat)(w:World):Calls prog 296 #[.agg (Dl.cells ⟨3,xn,xtr,xtx,xm,xa,xlen,xcap⟩)] w fun e w'=>e=.returned (idV xtx xm)/\Below w.heap.size w w':=by
 go_enter func296,ntmps296
 go_wp2_with (go_at_call 290;refine(qam _).mono ?_;rintro e w2 ⟨rfl,hww⟩;obtain rfl:=hww.symm)
 refine bodyPost_ret (v:=idV xtx xm) (by simp[results,results296,go_sem, *]) rfl ?_;exact⟨rfl,bl2 (by exact⟨rfl,rfl,rfl,rfl⟩)⟩
theorem qgk(xk xn:Int)(xtr:Bool)(xtx:ByteArray)(xm:Int)(xa:Option Addr)(xlen xcap:Nat)(w:World)(hk:xk≠3):Calls prog 296 #[.agg (Dl.cells ⟨xk,xn,xtr,xtx,xm,xa,xlen,xcap⟩)] w fun e w'=>e=.panicked (stopP (stopV 4))/\Below w.heap.size w w':=by
 have hk':(xk==3)=false:=by simpa using hk
 go_enter func296,ntmps296
 go_wp2_with (go_at_call 290;refine(qax _).mono ?_;rintro e w2 ⟨rfl,o,rfl⟩)
 exact⟨rfl,rfl,(bl2 (by exact⟨rfl,rfl,rfl,rfl⟩)).trans ((qab _ _).mono (by simp;omega))⟩
def meanN(x:Xs)(i:Sc.Id)(sc:Scope):Int:=match find i sc with
 |some _=>0
 |none=>if(Kw.of i.1).isSome then 1 else if(x.mcr i.1).isSome then 2 else 3
def meanA(i:Sc.Id)(sc:Scope):Value:=match find i sc with
 |some (u,n)=>.agg #[.int .i64 (u:Int),.int .i64 (n:Int)]
 |none=>.agg #[.int .i64 0,.int .i64 0]
theorem qc5{W:World}{b t:Nat}{x y u v:Value}(h:W.heap[b]? =some (.cells #[x,y] t (0,0))):((W.setCell ⟨b,0,none⟩ u).setCell ⟨b,1,none⟩ v).heap[b]? =some (.cells #[u,v] t (0,0)):=by
 simp[World.setCell,Array.getElem?_modify,h]
theorem qaz{w W W':World}{b:Nat}{u v:Value}(hb:w.heap.size<=b)(h:Below w.heap.size w W)(hl:Lk ((W.setCell ⟨b,0,none⟩ u).setCell ⟨b,1,none⟩ v) W'):Below w.heap.size w W':=
 ⟨hl.os.trans h.os,hl.tape.trans h.tape,hl.output.trans h.output,by rw[hl.heap,qaf,qaf];exact h.size,fun k hk=>by
  rw[hl.heap,qaa (a:=⟨b,1,none⟩) k (by show k≠b;omega),qaa (a:=⟨b,0,none⟩) k (by show k≠b;omega)];exact h.block k hk⟩
theorem mean318(xb _mb _rb mm ab:Nat)(t:ByteArray)(m:Int)(bd kw mac:Bool)(u n:Int)(vr:Value)(w:World)(c3:w.cell? ⟨xb,3,none⟩=some (.pointer (some ⟨ab,0,none⟩)))(c2:w.cell? ⟨xb,2,none⟩=some (.map (some mm)))
  (hF:∀w',Below w.heap.size w w'->Calls prog 354 #[.pointer (some ⟨ab,0,none⟩),idV t m] w' fun e w2=>e=.returned (.tuple #[.agg #[.int .i64 u,.int .i64 n],.bool bd])/\Below w'.heap.size w' w2)
  (hL:∀w',Below w.heap.size w w'->(Instr.lookup 325 (.map (some mm)) (.string t) true).run prog w'=.ok (.tuple #[vr,.bool mac]) w')
  (hK:∀w',Calls prog 320 #[.string t] w' fun e w2=>e=.returned (.bool kw)/\Lk w' w2):
  Calls prog 318 #[.pointer (some ⟨xb,0,none⟩),idV t m] w fun e w'=>e=.returned (.tuple #[.int .i64 (if bd then 0 else if kw then 1 else if mac then 2 else 3),.agg #[.int .i64 u,.int .i64 n]])/\Below w.heap.size w w':=by
 have l1:=qac c3;have HL:=hZ hL;have HK:=hZ hK;have keep:∀{w' w2:World},Below w'.heap.size w' w2->∀{b k:Nat} {v:Value},w'.cell? ⟨b,k,none⟩=some v->w2.cell? ⟨b,k,none⟩=some v:=fun {w' w2} hB {b k v} hv=>(hB.cell (p:=⟨b,k,none⟩) (qac hv)).trans hv
 have base:∀{w':World},Lk ((w.alloc (.cells #[.string t,.int .i64 m] 382)).alloc (.cells #[.int .i64 0,.int .i64 0] 395)) w'->w'.cell? ⟨xb,3,none⟩=some (.pointer (some ⟨ab,0,none⟩))/\w'.cell? ⟨xb,2,none⟩=some (.map (some mm))/\w'.cell? ⟨w.heap.size,0,none⟩=some (.string t)/\w'.cell? ⟨w.heap.size,1,none⟩=some (.int .i64 m):=fun {w'} hw=>by
  have e:∀b k,w'.cell? ⟨b,k,none⟩=((w.alloc (.cells #[.string t,.int .i64 m] 382)).alloc (.cells #[.int .i64 0,.int .i64 0] 395)).cell? ⟨b,k,none⟩:=fun b k=>by simp only[World.cell?,hw.heap]
  have hn:=heap_alloc_new w (.cells #[.string t,.int .i64 m] 382);refine⟨by rw[e];exact qaj (qaj c3),by rw[e];exact qaj (qaj c2),by rw[e];exact qaj (by simp only[World.cell?,hn];rfl),by rw[e];exact qaj (by simp only[World.cell?,hn];rfl)⟩
 have HFa:Hid (∀w',Lk ((w.alloc (.cells #[.string t,.int .i64 m] 382)).alloc (.cells #[.int .i64 0,.int .i64 0] 395)) w'->Calls prog 354 #[.pointer (some ⟨ab,0,none⟩),.agg #[.string t,.int .i64 m]] w' fun e w2=>e=.returned (.tuple #[.agg #[.int .i64 u,.int .i64 n],.bool bd])/\(w2.cell? ⟨xb,3,none⟩=some (.pointer (some ⟨ab,0,none⟩))/\w2.cell? ⟨xb,2,none⟩=some (.map (some mm))/\w2.cell? ⟨w.heap.size,0,none⟩=some (.string t)/\w2.cell? ⟨w.heap.size,1,none⟩=some (.int .i64 m))/\Below w.heap.size w w2/\w2.heap[w.heap.size+1]? =some (.cells #[.int .i64 0,.int .i64 0] 395 (0,0))):=fun w' hw=>Calls.mono (hF w' (bl2 hw)) fun e w2 ⟨he,hB⟩=>by
  obtain⟨b1,b2,b3,b4⟩:=base hw;have hr:w'.heap[w.heap.size+1]? =some (.cells #[.int .i64 0,.int .i64 0] 395 (0,0)):=by
   have:=heap_alloc_new (w.alloc (.cells #[.string t,.int .i64 m] 382)) (.cells #[.int .i64 0,.int .i64 0] 395);rw[hw.heap];simpa using this
  exact⟨he,⟨keep hB b1,keep hB b2,keep hB b3,keep hB b4⟩,(bl2 hw).trans (hB.mono (bl2 hw).size),by rw[hB.block _ (Array.getElem?_eq_some_iff.1 hr).1];exact hr⟩
 have HFb:Hid (∀w',Lk (((w.alloc (.cells #[.string t,.int .i64 m] 382)).alloc (.cells #[.int .i64 0,.int .i64 0] 395)).alloc (.cells #[.int .i64 0,.int .i64 0] 395)) w'->Calls prog 354 #[.pointer (some ⟨ab,0,none⟩),.agg #[.string t,.int .i64 m]] w' fun e w2=>e=.returned (.tuple #[.agg #[.int .i64 u,.int .i64 n],.bool bd])/\(w2.heap[w.heap.size+2]? =some (.cells #[.int .i64 0,.int .i64 0] 395 (0,0))/\(w2.cell? ⟨w.heap.size+2,0,none⟩=some (.int .i64 0)/\w2.cell? ⟨w.heap.size+2,1,none⟩=some (.int .i64 0)/\(∀o,w2.frozen? ⟨w.heap.size+2,o,none⟩=false)))/\(w2.cell? ⟨xb,3,none⟩=some (.pointer (some ⟨ab,0,none⟩))/\w2.cell? ⟨xb,2,none⟩=some (.map (some mm))/\w2.cell? ⟨w.heap.size,0,none⟩=some (.string t)/\w2.cell? ⟨w.heap.size,1,none⟩=some (.int .i64 m))/\Below w.heap.size w w2/\w2.heap[w.heap.size+1]? =some (.cells #[.int .i64 0,.int .i64 0] 395 (0,0))):=fun w' hw=>by
  have hb3:Below w.heap.size w w':=(((qab w (.cells #[.string t,.int .i64 m] 382)).alloc (by simp) (.cells #[.int .i64 0,.int .i64 0] 395)).alloc (by simp;omega) (.cells #[.int .i64 0,.int .i64 0] 395)).trans ((bl0 hw).mono (by simp;omega));refine Calls.mono (hF w' hb3) ?_;rintro e w2 ⟨he,hB⟩;obtain⟨b1,b2,b3,b4⟩:=base (w':=(w.alloc (.cells #[.string t,.int .i64 m] 382)).alloc (.cells #[.int .i64 0,.int .i64 0] 395)) ⟨rfl,rfl,rfl,rfl⟩;have up:∀{b k:Nat} {v:Value},((w.alloc (.cells #[.string t,.int .i64 m] 382)).alloc (.cells #[.int .i64 0,.int .i64 0] 395)).cell? ⟨b,k,none⟩=some v->w'.cell? ⟨b,k,none⟩=some v:=fun {b k v} h=>by
   have:=qaj (o:=.cells #[.int .i64 0,.int .i64 0] 395) h;simp only[World.cell?,hw.heap]at this|-;exact this
  have hq:w'.heap[w.heap.size+2]? =some (.cells #[.int .i64 0,.int .i64 0] 395 (0,0)):=by
   have:=heap_alloc_new ((w.alloc (.cells #[.string t,.int .i64 m] 382)).alloc (.cells #[.int .i64 0,.int .i64 0] 395)) (.cells #[.int .i64 0,.int .i64 0] 395);rw[hw.heap];simpa using this
  have hq2:w2.heap[w.heap.size+2]? =some (.cells #[.int .i64 0,.int .i64 0] 395 (0,0)):=by rw[hB.block _ (Array.getElem?_eq_some_iff.1 hq).1];exact hq
  exact⟨he,⟨hq2,by simp only[World.cell?,hq2];rfl,by simp only[World.cell?,hq2];rfl,fun o=>by simp[World.frozen?,hq2]⟩,⟨keep hB (up b1),keep hB (up b2),keep hB (up b3),keep hB (up b4)⟩,hb3.trans (hB.mono hb3.size),by
   have hr:w'.heap[w.heap.size+1]? =some (.cells #[.int .i64 0,.int .i64 0] 395 (0,0)):=by
    have:=heap_alloc_new (w.alloc (.cells #[.string t,.int .i64 m] 382)) (.cells #[.int .i64 0,.int .i64 0] 395);rw[hw.heap,Below.heap_alloc _ _ _ (by simp)];simpa using this
   rw[hB.block _ (Array.getElem?_eq_some_iff.1 hr).1];exact hr⟩
 obtain⟨k3,k2,k0,k1⟩:=base (w':=(w.alloc (.cells #[.string t,.int .i64 m] 382)).alloc (.cells #[.int .i64 0,.int .i64 0] 395)) ⟨rfl,rfl,rfl,rfl⟩;clear hF hL hK base keep;go_enter func318,ntmps318
 go_wp2_with (fail)
 go_region_held3 (fun w'=>w'.cell? ⟨xb,3,none⟩=some (.pointer (some ⟨ab,0,none⟩))/\w'.cell? ⟨w.heap.size,0,none⟩=some (.string t)/\w'.cell? ⟨w.heap.size,1,none⟩=some (.int .i64 m)) (first|(exact⟨HC1.out.1.1,HC1.out.1.2.2.1,HC1.out.1.2.2.2⟩)|(exact⟨k3,k0,k1⟩)|(exact⟨qaj k3,qaj k0,qaj k1⟩)|(exact⟨qaj HC1.out.1.1,qaj HC1.out.1.2.2.1,qaj HC1.out.1.2.2.2⟩)|(exact⟨qap (qap HC1.out.1.1 (by simp;omega)) (by simp;omega),qap (qap HC1.out.1.2.2.1 (by simp;omega)) (by simp;omega),qap (qap HC1.out.1.2.2.2 (by simp;omega)) (by simp;omega)⟩)|go_keep|(trace_state;fail))
  (first
   |(go_at_call 354;refine(HFa.out _ (by exact⟨rfl,rfl,rfl,rfl⟩)).mono ?_;rintro e w1 ⟨rfl,hc⟩;have HC1:=hZ hc;clear hc)
   |(go_at_call 354;refine(HFb.out _ (by exact⟨rfl,rfl,rfl,rfl⟩)).mono ?_;rintro e w1 ⟨rfl,⟨hq,d0,d1,fz⟩,hc⟩;have HQ1:=hZ hq;have HC1:=hZ hc;clear hc hq))
 ·obtain⟨⟨p3,p2,p0,p1⟩,hbel,hres⟩:=HC1.out;have hbel:Below w.heap.size w (w1.alloc (.cells #[.int .i64 u,.int .i64 n] 395)):=hbel.trans ((qab _ _).mono hbel.size);have p2:=qaj (o:=.cells #[.int .i64 u,.int .i64 n] 395) p2;have p0:=qaj (o:=.cells #[.int .i64 u,.int .i64 n] 395) p0;have hres:(w1.alloc (.cells #[.int .i64 u,.int .i64 n] 395)).heap[w.heap.size+1]? =some (.cells #[.int .i64 0,.int .i64 0] 395 (0,0)):=by rw[Below.heap_alloc _ _ _ (Array.getElem?_eq_some_iff.1 hres).1];exact hres
  have hq:=heap_alloc_new w1 (.cells #[.int .i64 u,.int .i64 n] 395);have hqs:w.heap.size+1<w1.heap.size:=by have:=(Array.getElem?_eq_some_iff.1 HC1.out.2.2).1;exact this
  generalize w1.heap.size=q at hq hqs|-;generalize w1.alloc (.cells #[.int .i64 u,.int .i64 n] 395)=W at hbel p2 p0 hres hq|-;have q0:W.cell? ⟨q,0,none⟩=some (.int .i64 u):=by simp only[World.cell?,hq];rfl
  have q1:W.cell? ⟨q,1,none⟩=some (.int .i64 n):=by simp only[World.cell?,hq];rfl
  clear HC1 p3 p1 hq HFa HFb;have lz:=(Array.getElem?_eq_some_iff.1 hres).1;have hlk:=HL.out W.drew (hbel.trans ((bl0 (by exact⟨rfl,rfl,rfl,rfl⟩)).mono hbel.size));have HBel:=hZ hbel;have HRes:=hZ hres;clear hbel hres;have r0:W.cell? ⟨w.heap.size+1,0,none⟩=some (.int .i64 0):=by simp only[World.cell?,HRes.out];rfl
  have r1:W.cell? ⟨w.heap.size+1,1,none⟩=some (.int .i64 0):=by simp only[World.cell?,HRes.out];rfl
  have rf0:W.frozen? ⟨w.heap.size+1,0,none⟩=false:=by simp[World.frozen?,HRes.out]
  have rf1:W.frozen? ⟨w.heap.size+1,1,none⟩=false:=by simp[World.frozen?,HRes.out]
  go_wp2_with (fail)
  go_region
  cases bd
  ·go_wp2_with (go_at_call 320;refine(HK.out _).mono ?_;rintro e w2 ⟨rfl,hw2⟩;refine Hid.out ?_)
   have hw3:Lk W w2:=⟨hw2.1,hw2.2,hw2.3,hw2.4⟩;have HRes2:Hid (w2.heap[w.heap.size+1]? =some (.cells #[.int .i64 0,.int .i64 0] 395 (0,0))):=by
    have h:=HRes.out;rw[<-hw3.heap]at h;exact h
   have HBel2:Hid (Below w.heap.size w w2):=HBel.out.trans ((bl0 hw3).mono HBel.out.size);have q0:w2.cell? ⟨q,0,none⟩=some (.int .i64 u):=by simp only[World.cell?,hw3.heap];exact q0
   have q1:w2.cell? ⟨q,1,none⟩=some (.int .i64 n):=by simp only[World.cell?,hw3.heap];exact q1
   have r0:w2.cell? ⟨w.heap.size+1,0,none⟩=some (.int .i64 0):=by simp only[World.cell?,HRes2.out];rfl
   have r1:w2.cell? ⟨w.heap.size+1,1,none⟩=some (.int .i64 0):=by simp only[World.cell?,HRes2.out];rfl
   have rf0:w2.frozen? ⟨w.heap.size+1,0,none⟩=false:=by simp[World.frozen?,HRes2.out]
   have rf1:w2.frozen? ⟨w.heap.size+1,1,none⟩=false:=by simp[World.frozen?,HRes2.out]
   clear hw2 hw3 HRes HBel;refine hZ ?_;cases kw
   ·cases mac
    ·have g:=qc5 (u:=.int .i64 u) (v:=.int .i64 n) HRes2.out;have g0:((w2.setCell ⟨w.heap.size+1,0,none⟩ (.int .i64 u)).setCell ⟨w.heap.size+1,1,none⟩ (.int .i64 n)).cell? ⟨w.heap.size+1,0,none⟩=some (.int .i64 u):=by simp only[World.cell?,g];rfl
     have g1:((w2.setCell ⟨w.heap.size+1,0,none⟩ (.int .i64 u)).setCell ⟨w.heap.size+1,1,none⟩ (.int .i64 n)).cell? ⟨w.heap.size+1,1,none⟩=some (.int .i64 n):=by simp only[World.cell?,g];rfl
     clear g;go_wp2_with (fail)
     go_region
     go_wp2;refine bodyPost_ret (v:=.tuple #[.int .i64 3,.agg #[.int .i64 u,.int .i64 n]]) (by simp[results,results318,go_sem, *]) rfl ?_;exact⟨rfl,qaz (b:=w.heap.size+1) (u:=.int .i64 u) (v:=.int .i64 n) (by omega) HBel2.out (by exact⟨rfl,rfl,rfl,rfl⟩)⟩
    ·have g:=qc5 (u:=.int .i64 u) (v:=.int .i64 n) HRes2.out;have g0:((w2.setCell ⟨w.heap.size+1,0,none⟩ (.int .i64 u)).setCell ⟨w.heap.size+1,1,none⟩ (.int .i64 n)).cell? ⟨w.heap.size+1,0,none⟩=some (.int .i64 u):=by simp only[World.cell?,g];rfl
     have g1:((w2.setCell ⟨w.heap.size+1,0,none⟩ (.int .i64 u)).setCell ⟨w.heap.size+1,1,none⟩ (.int .i64 n)).cell? ⟨w.heap.size+1,1,none⟩=some (.int .i64 n):=by simp only[World.cell?,g];rfl
     clear g;go_wp2_with (fail)
     go_region
     go_wp2;refine bodyPost_ret (v:=.tuple #[.int .i64 2,.agg #[.int .i64 u,.int .i64 n]]) (by simp[results,results318,go_sem, *]) rfl ?_;exact⟨rfl,qaz (b:=w.heap.size+1) (u:=.int .i64 u) (v:=.int .i64 n) (by omega) HBel2.out (by exact⟨rfl,rfl,rfl,rfl⟩)⟩
   ·have g:=qc5 (u:=.int .i64 u) (v:=.int .i64 n) HRes2.out;have g0:((w2.setCell ⟨w.heap.size+1,0,none⟩ (.int .i64 u)).setCell ⟨w.heap.size+1,1,none⟩ (.int .i64 n)).cell? ⟨w.heap.size+1,0,none⟩=some (.int .i64 u):=by simp only[World.cell?,g];rfl
    have g1:((w2.setCell ⟨w.heap.size+1,0,none⟩ (.int .i64 u)).setCell ⟨w.heap.size+1,1,none⟩ (.int .i64 n)).cell? ⟨w.heap.size+1,1,none⟩=some (.int .i64 n):=by simp only[World.cell?,g];rfl
    clear g;go_wp2_with (fail)
    go_region
    go_wp2;refine bodyPost_ret (v:=.tuple #[.int .i64 1,.agg #[.int .i64 u,.int .i64 n]]) (by simp[results,results318,go_sem, *]) rfl ?_;exact⟨rfl,qaz (b:=w.heap.size+1) (u:=.int .i64 u) (v:=.int .i64 n) (by omega) HBel2.out (by exact⟨rfl,rfl,rfl,rfl⟩)⟩
  ·have g:=qc5 (u:=.int .i64 u) (v:=.int .i64 n) HRes.out;have g0:((W.setCell ⟨w.heap.size+1,0,none⟩ (.int .i64 u)).setCell ⟨w.heap.size+1,1,none⟩ (.int .i64 n)).cell? ⟨w.heap.size+1,0,none⟩=some (.int .i64 u):=by simp only[World.cell?,g];rfl
   have g1:((W.setCell ⟨w.heap.size+1,0,none⟩ (.int .i64 u)).setCell ⟨w.heap.size+1,1,none⟩ (.int .i64 n)).cell? ⟨w.heap.size+1,1,none⟩=some (.int .i64 n):=by simp only[World.cell?,g];rfl
   clear g;go_wp2_with (fail)
   go_region
   go_wp2;refine bodyPost_ret (v:=.tuple #[.int .i64 0,.agg #[.int .i64 u,.int .i64 n]]) (by simp[results,results318,go_sem, *]) rfl ?_;exact⟨rfl,qaz (b:=w.heap.size+1) (u:=.int .i64 u) (v:=.int .i64 n) (by omega) HBel.out (by exact⟨rfl,rfl,rfl,rfl⟩)⟩
 ·obtain⟨⟨p3,p2,p0,p1⟩,hbel,hres⟩:=HC1.out;have hbel:Below w.heap.size w ((w1.setCell ⟨w.heap.size+2,0,none⟩ (.int .i64 u)).setCell ⟨w.heap.size+2,1,none⟩ (.int .i64 n)):=qaz (by omega) hbel ⟨rfl,rfl,rfl,rfl⟩;have p2:((w1.setCell ⟨w.heap.size+2,0,none⟩ (.int .i64 u)).setCell ⟨w.heap.size+2,1,none⟩ (.int .i64 n)).cell? ⟨xb,2,none⟩=some (.map (some mm)):=qap (qap p2 (by simp;omega)) (by simp;omega);have p0:((w1.setCell ⟨w.heap.size+2,0,none⟩ (.int .i64 u)).setCell ⟨w.heap.size+2,1,none⟩ (.int .i64 n)).cell? ⟨w.heap.size,0,none⟩=some (.string t):=qap (qap p0 (by simp)) (by simp);have hres:((w1.setCell ⟨w.heap.size+2,0,none⟩ (.int .i64 u)).setCell ⟨w.heap.size+2,1,none⟩ (.int .i64 n)).heap[w.heap.size+1]? =some (.cells #[.int .i64 0,.int .i64 0] 395 (0,0)):=by
   rw[qaa (a:=⟨w.heap.size+2,1,none⟩) _ (by show w.heap.size+1≠w.heap.size+2;omega),qaa (a:=⟨w.heap.size+2,0,none⟩) _ (by show w.heap.size+1≠w.heap.size+2;omega)];exact hres
  have hq:=qc5 (u:=.int .i64 u) (v:=.int .i64 n) HQ1.out;have hqs:w.heap.size+1<w.heap.size+1+1:=by omega
  have e2:w.heap.size+2=w.heap.size+1+1:=rfl;rw[e2]at hq p2 p0 hres hbel;generalize hqq:w.heap.size+1+1=q at hq hqs p2 p0 hres hbel|-;generalize (w1.setCell ⟨q,0,none⟩ (.int .i64 u)).setCell ⟨q,1,none⟩ (.int .i64 n)=W at hbel p2 p0 hres hq|-;have q0:W.cell? ⟨q,0,none⟩=some (.int .i64 u):=by simp only[World.cell?,hq];rfl
  have q1:W.cell? ⟨q,1,none⟩=some (.int .i64 n):=by simp only[World.cell?,hq];rfl
  clear HC1 HQ1 p3 p1 hq HFa HFb d0 d1 fz hqq e2;have lz:=(Array.getElem?_eq_some_iff.1 hres).1;have hlk:=HL.out W.drew (hbel.trans ((bl0 (by exact⟨rfl,rfl,rfl,rfl⟩)).mono hbel.size));have HBel:=hZ hbel;have HRes:=hZ hres;clear hbel hres;have r0:W.cell? ⟨w.heap.size+1,0,none⟩=some (.int .i64 0):=by simp only[World.cell?,HRes.out];rfl
  have r1:W.cell? ⟨w.heap.size+1,1,none⟩=some (.int .i64 0):=by simp only[World.cell?,HRes.out];rfl
  have rf0:W.frozen? ⟨w.heap.size+1,0,none⟩=false:=by simp[World.frozen?,HRes.out]
  have rf1:W.frozen? ⟨w.heap.size+1,1,none⟩=false:=by simp[World.frozen?,HRes.out]
  go_wp2_with (fail)
  go_region
  cases bd
  ·go_wp2_with (go_at_call 320;refine(HK.out _).mono ?_;rintro e w2 ⟨rfl,hw2⟩;refine Hid.out ?_)
   have hw3:Lk W w2:=⟨hw2.1,hw2.2,hw2.3,hw2.4⟩;have HRes2:Hid (w2.heap[w.heap.size+1]? =some (.cells #[.int .i64 0,.int .i64 0] 395 (0,0))):=by
    have h:=HRes.out;rw[<-hw3.heap]at h;exact h
   have HBel2:Hid (Below w.heap.size w w2):=HBel.out.trans ((bl0 hw3).mono HBel.out.size);have q0:w2.cell? ⟨q,0,none⟩=some (.int .i64 u):=by simp only[World.cell?,hw3.heap];exact q0
   have q1:w2.cell? ⟨q,1,none⟩=some (.int .i64 n):=by simp only[World.cell?,hw3.heap];exact q1
   have r0:w2.cell? ⟨w.heap.size+1,0,none⟩=some (.int .i64 0):=by simp only[World.cell?,HRes2.out];rfl
   have r1:w2.cell? ⟨w.heap.size+1,1,none⟩=some (.int .i64 0):=by simp only[World.cell?,HRes2.out];rfl
   have rf0:w2.frozen? ⟨w.heap.size+1,0,none⟩=false:=by simp[World.frozen?,HRes2.out]
   have rf1:w2.frozen? ⟨w.heap.size+1,1,none⟩=false:=by simp[World.frozen?,HRes2.out]
   clear hw2 hw3 HRes HBel;refine hZ ?_;cases kw
   ·cases mac
    ·have g:=qc5 (u:=.int .i64 u) (v:=.int .i64 n) HRes2.out;have g0:((w2.setCell ⟨w.heap.size+1,0,none⟩ (.int .i64 u)).setCell ⟨w.heap.size+1,1,none⟩ (.int .i64 n)).cell? ⟨w.heap.size+1,0,none⟩=some (.int .i64 u):=by simp only[World.cell?,g];rfl
     have g1:((w2.setCell ⟨w.heap.size+1,0,none⟩ (.int .i64 u)).setCell ⟨w.heap.size+1,1,none⟩ (.int .i64 n)).cell? ⟨w.heap.size+1,1,none⟩=some (.int .i64 n):=by simp only[World.cell?,g];rfl
     clear g;go_wp2_with (fail)
     go_region
     go_wp2;refine bodyPost_ret (v:=.tuple #[.int .i64 3,.agg #[.int .i64 u,.int .i64 n]]) (by simp[results,results318,go_sem, *]) rfl ?_;exact⟨rfl,qaz (b:=w.heap.size+1) (u:=.int .i64 u) (v:=.int .i64 n) (by omega) HBel2.out (by exact⟨rfl,rfl,rfl,rfl⟩)⟩
    ·have g:=qc5 (u:=.int .i64 u) (v:=.int .i64 n) HRes2.out;have g0:((w2.setCell ⟨w.heap.size+1,0,none⟩ (.int .i64 u)).setCell ⟨w.heap.size+1,1,none⟩ (.int .i64 n)).cell? ⟨w.heap.size+1,0,none⟩=some (.int .i64 u):=by simp only[World.cell?,g];rfl
     have g1:((w2.setCell ⟨w.heap.size+1,0,none⟩ (.int .i64 u)).setCell ⟨w.heap.size+1,1,none⟩ (.int .i64 n)).cell? ⟨w.heap.size+1,1,none⟩=some (.int .i64 n):=by simp only[World.cell?,g];rfl
     clear g;go_wp2_with (fail)
     go_region
     go_wp2;refine bodyPost_ret (v:=.tuple #[.int .i64 2,.agg #[.int .i64 u,.int .i64 n]]) (by simp[results,results318,go_sem, *]) rfl ?_;exact⟨rfl,qaz (b:=w.heap.size+1) (u:=.int .i64 u) (v:=.int .i64 n) (by omega) HBel2.out (by exact⟨rfl,rfl,rfl,rfl⟩)⟩
   ·have g:=qc5 (u:=.int .i64 u) (v:=.int .i64 n) HRes2.out;have g0:((w2.setCell ⟨w.heap.size+1,0,none⟩ (.int .i64 u)).setCell ⟨w.heap.size+1,1,none⟩ (.int .i64 n)).cell? ⟨w.heap.size+1,0,none⟩=some (.int .i64 u):=by simp only[World.cell?,g];rfl
    have g1:((w2.setCell ⟨w.heap.size+1,0,none⟩ (.int .i64 u)).setCell ⟨w.heap.size+1,1,none⟩ (.int .i64 n)).cell? ⟨w.heap.size+1,1,none⟩=some (.int .i64 n):=by simp only[World.cell?,g];rfl
    clear g;go_wp2_with (fail)
    go_region
    go_wp2;refine bodyPost_ret (v:=.tuple #[.int .i64 1,.agg #[.int .i64 u,.int .i64 n]]) (by simp[results,results318,go_sem, *]) rfl ?_;exact⟨rfl,qaz (b:=w.heap.size+1) (u:=.int .i64 u) (v:=.int .i64 n) (by omega) HBel2.out (by exact⟨rfl,rfl,rfl,rfl⟩)⟩
  ·have g:=qc5 (u:=.int .i64 u) (v:=.int .i64 n) HRes.out;have g0:((W.setCell ⟨w.heap.size+1,0,none⟩ (.int .i64 u)).setCell ⟨w.heap.size+1,1,none⟩ (.int .i64 n)).cell? ⟨w.heap.size+1,0,none⟩=some (.int .i64 u):=by simp only[World.cell?,g];rfl
   have g1:((W.setCell ⟨w.heap.size+1,0,none⟩ (.int .i64 u)).setCell ⟨w.heap.size+1,1,none⟩ (.int .i64 n)).cell? ⟨w.heap.size+1,1,none⟩=some (.int .i64 n):=by simp only[World.cell?,g];rfl
   clear g;go_wp2_with (fail)
   go_region
   go_wp2;refine bodyPost_ret (v:=.tuple #[.int .i64 0,.agg #[.int .i64 u,.int .i64 n]]) (by simp[results,results318,go_sem, *]) rfl ?_;exact⟨rfl,qaz (b:=w.heap.size+1) (u:=.int .i64 u) (v:=.int .i64 n) (by omega) HBel.out (by exact⟨rfl,rfl,rfl,rfl⟩)⟩
end
section
open Sc
def lookS{α:Type}(s:List UInt8):List (List UInt8×α)->Option α
 | []=>none
 |(t,a)::r=>if s=t then some a else lookS s r
theorem qhv(t:ByteArray):∀(es:List MapEntry) (L:List (List UInt8×Value)) (i:Nat),es.map (fun e=>(e.key,e.val))=L.map (fun p=>(Value.string ⟨p.1.toArray⟩,p.2))->
  ∃r,Instr.findNow .string (.string t) es i=some r/\r.map (·.2)=lookS t.data.toList L
 | [],[],i,_=>⟨none,rfl,rfl⟩
 | [],_::_,i,h=>by simp at h
 |_::_,[],i,h=>by simp at h
 |e::es,(s,b)::L,i,h=>by
  simp only[List.map_cons,List.cons.injEq,Prod.mk.injEq]at h;obtain⟨⟨h1,h2⟩,h3⟩:=h;simp only[Instr.findNow,h1,Instr.sameNow,qb8,lookS];by_cases hs:t.data.toList=s
  ·simp[hs,h2]
  ·simp only[hs,decide_false];obtain⟨r,e1,e2⟩:=qhv t es L (i+1) h3;exact⟨r,e1,by simpa[hs]using e2⟩
theorem qi8(mp:Nat)(es:Array MapEntry)(clock:Nat)(L:List (List UInt8×Value))(t:ByteArray)(w:World)(hw:w.heap[mp]? =some (.map es clock))(hL:es.toList.map (fun e=>(e.key,e.val))=L.map (fun p=>(Value.string ⟨p.1.toArray⟩,p.2))):
  (Instr.lookup 325 (.map (some mp)) (.string t) true).run prog w=.ok (.tuple #[(lookS t.data.toList L).getD (.slice none 0 0),.bool (lookS t.data.toList L).isSome]) w:=by
 obtain⟨r,e1,e2⟩:=qhv t es.toList L 0 hL;have hg:=qa5 mp es clock w hw;cases r with
 |none=>
  cases hl:lookS t.data.toList L with
  |none=>simp[Instr.lookup,run_underlying underlying325,go_sem,hg,qjv,Instr.findKey,run_underlying underlying9,e1]
  |some b=>rw[hl]at e2;simp at e2
 |some p=>
  cases hl:lookS t.data.toList L with
  |none=>rw[hl]at e2;simp at e2
  |some b=>rw[hl]at e2;obtain⟨i,v⟩:=p;simp at e2;subst e2;simp[Instr.lookup,run_underlying underlying325,go_sem,hg,qjv,Instr.findKey,run_underlying underlying9,e1]
theorem McRows.look{R:Gh->Macro->Value->Prop}{G:Gh}(s:Bs):∀{ms:List Macro} {L:List (Bs×Value)},McRows R G ms L->(lookS s L).isSome=(ms.find? (fun m=>m.name==s)).isSome/\∀v,lookS s L=some v->∃mc,ms.find? (fun m=>m.name==s)=some mc/\R G mc v
 |_,_,.nil=>⟨rfl,fun v h=>by cases h⟩
 |_,_,.cons mc v ms L h _ hs=>by
  by_cases e:s=mc.name
  ·subst e;exact⟨by simp[lookS],fun u hu=>⟨mc,by simp,by simp[lookS]at hu;subst hu;exact h⟩⟩
  ·have e':(mc.name==s)=false:=by simpa using Ne.symm e
   obtain⟨h1,h2⟩:=McRows.look s hs;exact⟨by simpa[lookS,e,e']using h1,fun u hu=>by
    obtain⟨mc',h3,h4⟩:=h2 u (by simpa[lookS,e]using hu);exact⟨mc',by simpa[e']using h3,h4⟩⟩
theorem qgd{K:Rl}{X:Xe}{G:Gh}{S:Sub}{m:Mc}{x:Xs}{sc:Scope}{w:World}(g:Inv G S m w)(i:XInv K X G S x sc w)(t:ByteArray)(k:Int):
  Calls prog 318 #[bp X.xb,idV t k] w fun e w'=>e=.returned (.tuple #[.int .i64 (meanN x (t.data.toList,k) sc),meanA (t.data.toList,k) sc])/\Below w.heap.size w w':=by
 obtain⟨es,clock,L,hm1,hm2,hm3⟩:=i.mc;have hml:X.mm<w.heap.size:=(Array.getElem?_eq_some_iff.1 hm1).1;have c3:w.cell? ⟨X.xb,3,none⟩=some (.pointer (some ⟨X.ab,0,none⟩)):=by rw[g.cell i.xe];rfl
 have c2:w.cell? ⟨X.xb,2,none⟩=some (.map (some X.mm)):=by rw[g.cell i.xe];rfl
 have hlk:=(hm3.look t.data.toList).1;obtain⟨u,n,bd,hfv,hbd,hA⟩:∃(u n:Int) (bd:Bool),findV (t.data.toList,k) sc=.tuple #[.agg #[.int .i64 u,.int .i64 n],.bool bd]/\bd=(find (t.data.toList,k) sc).isSome/\meanA (t.data.toList,k) sc=.agg #[.int .i64 u,.int .i64 n]:=by
  unfold findV meanA;cases find (t.data.toList,k) sc with
  |none=>exact⟨0,0,false,rfl,rfl,rfl⟩
  |some p=>exact⟨p.1,p.2,true,rfl,rfl,rfl⟩
 refine Calls.mono (mean318 X.xb G.mb X.rb X.mm X.ab t k bd (Kw.of t.data.toList).isSome (lookS t.data.toList L).isSome u n ((lookS t.data.toList L).getD (.slice none 0 0)) w c3 c2 (fun w' hb=>?_) (fun w' hb=>qi8 X.mm es clock L t w' (by rw[hb.block _ hml];exact hm1) hm2) (fun w'=>qgi t w')) ?_
 ·refine Calls.mono (qsp (i.below hb) t k) ?_;rintro e w2 ⟨rfl,h⟩;exact⟨by rw[hfv],h⟩
 ·rintro e w' ⟨rfl,hb⟩;refine⟨?_,hb⟩;rw[hA,hlk,hbd];congr 3;unfold meanN Xs.mcr;cases find (t.data.toList,k) sc with
  |none=>simp
  |some p=>simp
end
section
open Sc
theorem qow(xb:Nat)(xk xn:Int)(xtr:Bool)(xtx:ByteArray)(xm:Int)(xa:Option Addr)(xcap:Nat)(w:World):
  Calls prog 288 #[.pointer (some ⟨xb,0,none⟩),.agg (Dl.cells ⟨xk,xn,xtr,xtx,xm,xa,0,xcap⟩)] w fun e w'=>e=.returned (.tuple #[.int .i64 3,.string ⟨#[]⟩])/\Below w.heap.size w w':=by
 go_enter func288,ntmps288
 go_wp2;go_ret2
 exact⟨rfl,bl1 (by exact⟨rfl,rfl,rfl,rfl⟩)⟩
theorem ql9(xb g o n:Nat)(xk xn yk:Int)(xtr:Bool)(xtx:ByteArray)(xm:Int)(xcap:Nat)(w:World)(c0:w.cell? ⟨g,o,none⟩=some (.int .i64 yk))(hk:yk≠3)(hn:n+1<=1000000):
  Calls prog 288 #[.pointer (some ⟨xb,0,none⟩),.agg (Dl.cells ⟨xk,xn,xtr,xtx,xm,some ⟨g,o,none⟩,n+1,xcap⟩)] w fun e w'=>e=.returned (.tuple #[.int .i64 3,.string ⟨#[]⟩])/\Below w.heap.size w w':=by
 have l0:=qac c0;have hk':(yk==3)=false:=by simpa using hk
 have hk2:(yk !=3)=true:=by simpa using hk
 have h1:¬((n:Int)+1=0):=by omega
 have h2:(0:Int)<(n:Int)+1:=by omega
 go_enter func288,ntmps288
 go_wp2;go_ret2
 exact⟨rfl,bl1 (by exact⟨rfl,rfl,rfl,rfl⟩)⟩
theorem qr9(xb g o n:Nat)(xk xn:Int)(xtr:Bool)(xtx:ByteArray)(xm:Int)(xcap:Nat)(yn:Int)(ytr:Bool)(ytx:ByteArray)(ym:Int)(ya:Option Addr)(ylen ycap:Nat)(mn:Int)(_av:Array Value)(w:World)
  (c0:w.cell? ⟨g,o,none⟩=some (.int .i64 3))(c1:w.cell? ⟨g,o+1,none⟩=some (.int .i64 yn))(c2:w.cell? ⟨g,o+2,none⟩=some (.bool ytr))(c3:w.cell? ⟨g,o+3,none⟩=some (.string ytx))(c4:w.cell? ⟨g,o+4,none⟩=some (.int .i64 ym))(c5:w.cell? ⟨g,o+5,none⟩=some (.slice ya ylen ycap))(hn:n+1<=1000000)
  (hM:∀w',Below w.heap.size w w'->Calls prog 318 #[.pointer (some ⟨xb,0,none⟩),.agg #[.string ytx,.int .i64 ym]] w' fun e w2=>(∃u v,e=.returned (.tuple #[.int .i64 mn,.agg #[.int .i64 u,.int .i64 v]]))/\Below w'.heap.size w' w2):
  Calls prog 288 #[.pointer (some ⟨xb,0,none⟩),.agg (Dl.cells ⟨xk,xn,xtr,xtx,xm,some ⟨g,o,none⟩,n+1,xcap⟩)] w fun e w'=>e=.returned (.tuple #[.int .i64 mn,.string ytx])/\Below w.heap.size w w':=by
 have l0:=qac c0;have h1:¬((n:Int)+1=0):=by omega
 have h2:(0:Int)<(n:Int)+1:=by omega
 have HM:=hZ hM;clear hM;go_enter func288,ntmps288
 go_wp2_with (go_at_call 296;refine(qbt yn ytr ytx ym ya ylen ycap _).mono ?_;rintro e w2 ⟨rfl,hb⟩;refine Hid.out ?_)
 have hb0:Below w.heap.size w w2:=(qab _ _).trans (hb.mono (by simp));have HB0:=hZ hb0;clear hb hb0;refine hZ ?_;go_wp2_with (go_at_call 318;refine(HM.out _ (HB0.out.trans ((qab _ _).mono HB0.out.size))).mono ?_;rintro e w3 ⟨⟨u,v,rfl⟩,hb⟩;refine Hid.out ?_)
 have hnm:(w2.alloc (.cells #[.string ytx,.int .i64 ym] 382)).heap[w2.heap.size]? =some (.cells #[.string ytx,.int .i64 ym] 382 (0,0)):=heap_alloc_new _ _;have hnm3:w3.heap[w2.heap.size]? =some (.cells #[.string ytx,.int .i64 ym] 382 (0,0)):=by rw[hb.block _ (by simp)];exact hnm
 have n0:w3.cell? ⟨w2.heap.size,0,none⟩=some (.string ytx):=by simp only[World.cell?,hnm3];rfl
 have ln:=qac n0;have HB3:Hid (Below w.heap.size w w3):=(HB0.out.trans ((qab _ _).mono HB0.out.size)).trans (hb.mono (by have:=HB0.out.size;simp;omega));clear hb hnm hnm3 HM;have n1:=qaj (o:=.cells #[.int .i64 u,.int .i64 v] 395) n0;refine hZ ?_;go_wp2_with (fail)
 go_region
 go_wp2;go_ret2
 exact⟨rfl,HB3.out.trans ((bl1 (o:=.cells #[.int .i64 u,.int .i64 v] 395) (by exact⟨rfl,rfl,rfl,rfl⟩)).mono HB3.out.size)⟩
end
section
open Sc
def leadN(x:Xs)(sc:Scope):Dt->Int×Bs
 | .list (.sym t k::_)=>(meanN x (t,k) sc,t)
 |_=>(3,[])
theorem qkm{K:Rl}{X:Xe}{G:Gh}{S:Sub}{m:Mc}{x:Xs}{sc:Scope}{w:World}{d:Dt}{e:Dl}(g:Inv G S m w)(i:XInv K X G S x sc w)(hd:DRep G d e):
  Calls prog 288 #[bp X.xb,.agg e.cells] w fun e' w'=>e'=.returned (.tuple #[.int .i64 (leadN x sc d).1,.string ⟨(leadN x sc d).2.toArray⟩])/\Below w.heap.size w w':=by
 obtain⟨xk,xn,xtr,xtx,xm,xa,xlen,xcap⟩:=e;have none':xlen=0->leadN x sc d=(3,[])->Calls prog 288 #[bp X.xb,.agg (Dl.cells ⟨xk,xn,xtr,xtx,xm,xa,xlen,xcap⟩)] w fun e' w'=>e'=.returned (.tuple #[.int .i64 (leadN x sc d).1,.string ⟨(leadN x sc d).2.toArray⟩])/\Below w.heap.size w w':=fun h0 h1=>by
  subst h0;rw[h1];exact qow X.xb xk xn xtr xtx xm xa xcap w
 cases hd with
 |num e h h0 h1 hc=>exact none' hc.1 rfl
 |bool e h hc=>exact none' hc.1 rfl
 |str e h hs hc=>exact none' hc.1 rfl
 |sym e h hs hc=>exact none' hc rfl
 |nil e h hl=>exact none' hl rfl
 |list e h l es gg o arr hl hc hm ha hg hr hs=>
  obtain rfl:xa=some ⟨gg,o,none⟩:=ha;cases hs with
  |nil=>exact none' hl rfl
  |cons d0 r e0 er h0 hs=>
   obtain⟨yk,yn,ytr,ytx,ym,ya,ylen,ycap⟩:=e0;obtain rfl:xlen=er.length+1:=hl;have hm:er.length+1<=30000:=hm;have cell:∀j,j<6->w.cell? ⟨gg,o+j,none⟩=(Dl.cells ⟨yk,yn,ytr,ytx,ym,ya,ylen,ycap⟩)[j]?:=fun j hj=>by
    rw[g.cell hg,<-hr 0 j _ rfl hj];simp
   have c0:w.cell? ⟨gg,o,none⟩=some (.int .i64 yk):=cell 0 (by omega);have other:yk≠3->leadN x sc (.list (d0::r))=(3,[])->Calls prog 288 #[bp X.xb,.agg (Dl.cells ⟨xk,xn,xtr,xtx,xm,some ⟨gg,o,none⟩,er.length+1,xcap⟩)] w fun e' w'=>e'=.returned (.tuple #[.int .i64 (leadN x sc (.list (d0::r))).1,.string ⟨(leadN x sc (.list (d0::r))).2.toArray⟩])/\Below w.heap.size w w':=fun hk h1=>by
    rw[h1];exact ql9 X.xb gg o er.length xk xn yk xtr xtx xm xcap w c0 hk (by omega)
   cases h0 with
   |num e h h0 h1 hc=>exact other (by have h:yk=0:=h;omega) rfl
   |bool e h hc=>exact other (by have h:yk=1:=h;omega) rfl
   |str e h hs hc=>exact other (by have h:yk=2:=h;omega) rfl
   |nil e h hl=>exact other (by have h:yk=4:=h;omega) rfl
   |list e h l es gg o arr hl hc hm ha hg hr hs=>exact other (by have h:yk=4:=h;omega) rfl
   |sym e h hs hc=>
    obtain rfl:yk=3:=h;refine Calls.mono (qr9 X.xb gg o er.length xk xn xtr xtx xm xcap yn ytr ytx ym ya ylen ycap (meanN x (ytx.data.toList,ym) sc) #[] w c0 (cell 1 (by omega)) (cell 2 (by omega)) (cell 3 (by omega)) (cell 4 (by omega)) (cell 5 (by omega)) (by omega) (fun w' hb=>?_)) ?_
    ·refine Calls.mono (qgd (g.below hb) (i.below hb) ytx ym) ?_;rintro e w2 ⟨rfl,h2⟩;refine⟨?_,h2⟩;unfold meanA;cases find (ytx.data.toList,ym) sc with
     |none=>exact⟨0,0,rfl⟩
     |some p=>exact⟨p.1,p.2,rfl⟩
    ·rintro e' w' ⟨rfl,hb⟩;exact⟨rfl,hb⟩
def kwN(x:Xs)(sc:Scope)(d:Dt):Bs:=if(leadN x sc d).1=1 then(leadN x sc d).2 else []
theorem qmc(xb:Nat)(xk xn:Int)(xtr:Bool)(xtx:ByteArray)(xm:Int)(xa:Option Addr)(xlen xcap:Nat)(mn:Int)(s:ByteArray)(w:World)(hL:∀w',Below w.heap.size w w'->Calls prog 288 #[.pointer (some ⟨xb,0,none⟩),.agg (Dl.cells ⟨xk,xn,xtr,xtx,xm,xa,xlen,xcap⟩)] w' fun e w2=>e=.returned (.tuple #[.int .i64 mn,.string s])/\Below w'.heap.size w' w2):
  Calls prog 232 #[.pointer (some ⟨xb,0,none⟩),.agg (Dl.cells ⟨xk,xn,xtr,xtx,xm,xa,xlen,xcap⟩)] w fun e w'=>e=.returned (.string (if mn=1 then s else⟨#[]⟩))/\Below w.heap.size w w':=by
 have HL:=hZ hL;clear hL;by_cases h1:mn=1
 ·subst h1;go_enter func232,ntmps232
  go_wp2_with (go_at_call 288;refine(HL.out _ (by first|exact bl0 (by exact⟨rfl,rfl,rfl,rfl⟩)|exact bl1 (by exact⟨rfl,rfl,rfl,rfl⟩))).mono ?_;rintro e w2 ⟨rfl,hb⟩;have HB:=hZ hb;clear hb)
  go_ret;exact⟨rfl,(bl1 (by exact⟨rfl,rfl,rfl,rfl⟩)).trans (HB.out.mono (by simp))⟩
 ·have h2:(mn==1)=false:=by simpa using h1
  have h3:(mn !=1)=true:=by simpa using h1
  rw[if_neg h1];go_enter func232,ntmps232
  go_wp2_with (go_at_call 288;refine(HL.out _ (by first|exact bl0 (by exact⟨rfl,rfl,rfl,rfl⟩)|exact bl1 (by exact⟨rfl,rfl,rfl,rfl⟩))).mono ?_;rintro e w2 ⟨rfl,hb⟩;have HB:=hZ hb;clear hb)
  go_ret;exact⟨rfl,(bl1 (by exact⟨rfl,rfl,rfl,rfl⟩)).trans (HB.out.mono (by simp))⟩
theorem qer{K:Rl}{X:Xe}{G:Gh}{S:Sub}{m:Mc}{x:Xs}{sc:Scope}{w:World}{d:Dt}{e:Dl}(g:Inv G S m w)(i:XInv K X G S x sc w)(hd:DRep G d e):
  Calls prog 232 #[bp X.xb,.agg e.cells] w fun e' w'=>e'=.returned (.string ⟨(kwN x sc d).toArray⟩)/\Below w.heap.size w w':=by
 obtain⟨xk,xn,xtr,xtx,xm,xa,xlen,xcap⟩:=e;refine Calls.mono (qmc X.xb xk xn xtr xtx xm xa xlen xcap (leadN x sc d).1 ⟨(leadN x sc d).2.toArray⟩ w fun w' hb=>qkm (g.below hb) (i.below hb) hd) ?_;rintro e' w' ⟨rfl,hb⟩;refine⟨?_,hb⟩;unfold kwN;by_cases h:(leadN x sc d).1=1 <;> simp[h]
end
section
open Sc
def Kept(xb:Nat)(w w' w2:World):Prop:=∀b,b<w'.heap.size->(w.heap.size<=b\/b=xb)->w2.heap[b]? =w'.heap[b]?
theorem Kept.cell{xb:Nat}{w w' w2:World}(h:Kept xb w w' w2){b k:Nat}{v:Value}(hv:w'.cell? ⟨b,k,none⟩=some v)(hb:w.heap.size<=b\/b=xb):w2.cell? ⟨b,k,none⟩=some v:=by
 have:=h b (qac hv) hb;simp only[World.cell?,this]at hv|-;exact hv
theorem qk6(xb mb:Nat)(u n:Int)(t:ByteArray)(m:Int)(w:World)(Q:Ending->World->Prop)(c0:w.cell? ⟨xb,0,none⟩=some (.pointer (some ⟨mb,0,none⟩)))
  (hM:∀w',Below w.heap.size w w'->Calls prog 318 #[.pointer (some ⟨xb,0,none⟩),.agg #[.string t,.int .i64 m]] w' fun e w2=>e=.returned (.tuple #[.int .i64 0,.agg #[.int .i64 u,.int .i64 n]])/\Below w'.heap.size w' w2)
  (hK:∀w',Below w.heap.size w w'->Calls prog 331 #[.pointer (some ⟨mb,0,none⟩),.agg #[.int .i64 u,.int .i64 n]] w' fun e w2=>(∃v,e=.returned v)/\Kept xb w w' w2/\Q e w2):
  Calls prog 295 #[.pointer (some ⟨xb,0,none⟩),idV t m] w Q:=by
 have l0:=qac c0;have HM:=hZ hM;have HK:=hZ hK;clear hM hK;go_enter func295,ntmps295
 go_wp2_with (first|(go_at_call 318;refine(HM.out _ (bl1 (by exact⟨rfl,rfl,rfl,rfl⟩))).mono ?_;rintro e w2 ⟨rfl,hb⟩;refine Hid.out ?_))
 have hb2:Below w.heap.size w w2:=(qab _ _).trans (hb.mono (by simp));have hb3:Below w.heap.size w (w2.alloc (.cells #[.int .i64 u,.int .i64 n] 395)):=hb2.trans ((qab _ _).mono hb2.size);have d0:(w2.alloc (.cells #[.int .i64 u,.int .i64 n] 395)).cell? ⟨xb,0,none⟩=some (.pointer (some ⟨mb,0,none⟩)):=qaj ((hb2.cell (p:=⟨xb,0,none⟩) l0).trans c0);have hq:=heap_alloc_new w2 (.cells #[.int .i64 u,.int .i64 n] 395);have d1:(w2.alloc (.cells #[.int .i64 u,.int .i64 n] 395)).cell? ⟨w2.heap.size,0,none⟩=some (.int .i64 u):=by simp only[World.cell?,hq];rfl
 have d2:(w2.alloc (.cells #[.int .i64 u,.int .i64 n] 395)).cell? ⟨w2.heap.size,1,none⟩=some (.int .i64 n):=by simp only[World.cell?,hq];rfl
 have hzq:w.heap.size<=w2.heap.size:=hb2.size;have HB3:=hZ hb3;clear hb hb2 hb3 HM hq;refine hZ ?_;go_wp2_with (go_at_call 290;refine(qam _).mono ?_;rintro e w3 ⟨rfl,hww⟩;obtain rfl:=hww.symm)
 generalize hW:w2.alloc (.cells #[.int .i64 u,.int .i64 n] 395)=W at HB3 d0 d1 d2|-;generalize w2.heap.size=q at d1 d2 hzq|-;clear hW;go_region_held3 (fun w'=>w'.cell? ⟨xb,0,none⟩=some (.pointer (some ⟨mb,0,none⟩))/\w'.cell? ⟨q,0,none⟩=some (.int .i64 u)/\w'.cell? ⟨q,1,none⟩=some (.int .i64 n)) (first|(exact⟨d0,d1,d2⟩)|(exact HS1.out)|go_keep)
  (first|(go_at_call 331;refine(HK.out _ (HB3.out.trans ((bl0 (by exact⟨rfl,rfl,rfl,rfl⟩)).mono HB3.out.size))).mono ?_;rintro e w3 ⟨⟨v,rfl⟩,hkp,hq⟩;have HS1:=hZ (And.intro (hkp.cell (v:=.pointer (some ⟨mb,0,none⟩)) (by exact d0) (.inr rfl)) (And.intro (hkp.cell (v:=.int .i64 u) (by exact d1) (.inl hzq)) (hkp.cell (v:=.int .i64 n) (by exact d2) (.inl hzq))));have HQ:=hZ hq;clear hq hkp))
 all_goals go_wp2
 all_goals exact HQ.out
theorem qk7(xb mb:Nat)(u n:Int)(t:ByteArray)(m:Int)(w:World)(Q:Ending->World->Prop)(c0:w.cell? ⟨xb,0,none⟩=some (.pointer (some ⟨mb,0,none⟩)))
  (hM:∀w',Below w.heap.size w w'->Calls prog 318 #[.pointer (some ⟨xb,0,none⟩),.agg #[.string t,.int .i64 m]] w' fun e w2=>e=.returned (.tuple #[.int .i64 3,.agg #[.int .i64 u,.int .i64 n]])/\Below w'.heap.size w' w2)
  (hK:∀w',Below w.heap.size w w'->Calls prog 332 #[.pointer (some ⟨mb,0,none⟩),.string t] w' fun e w2=>(∃v,e=.returned v)/\Kept xb w w' w2/\Q e w2):
  Calls prog 295 #[.pointer (some ⟨xb,0,none⟩),idV t m] w Q:=by
 have l0:=qac c0;have HM:=hZ hM;have HK:=hZ hK;clear hM hK;have hnm:=heap_alloc_new w (.cells #[.string t,.int .i64 m] 382);go_enter func295,ntmps295
 go_wp2_with (first|(go_at_call 318;refine(HM.out _ (bl1 (by exact⟨rfl,rfl,rfl,rfl⟩))).mono ?_;rintro e w2 ⟨rfl,hb⟩;refine Hid.out ?_))
 have hb2:Below w.heap.size w w2:=(qab _ _).trans (hb.mono (by simp));have hb3:Below w.heap.size w (w2.alloc (.cells #[.int .i64 u,.int .i64 n] 395)):=hb2.trans ((qab _ _).mono hb2.size);have d0:(w2.alloc (.cells #[.int .i64 u,.int .i64 n] 395)).cell? ⟨xb,0,none⟩=some (.pointer (some ⟨mb,0,none⟩)):=qaj ((hb2.cell (p:=⟨xb,0,none⟩) l0).trans c0);have hn2:w2.heap[w.heap.size]? =some (.cells #[.string t,.int .i64 m] 382 (0,0)):=by rw[hb.block _ (by simp)];exact hnm
 have d1:(w2.alloc (.cells #[.int .i64 u,.int .i64 n] 395)).cell? ⟨w.heap.size,0,none⟩=some (.string t):=qaj (by simp only[World.cell?,hn2];rfl);have HB3:=hZ hb3;clear hb hb2 hb3 HM hnm hn2;refine hZ ?_;go_wp2_with (go_at_call 290;refine(qam _).mono ?_;rintro e w3 ⟨rfl,hww⟩;obtain rfl:=hww.symm)
 generalize hW:w2.alloc (.cells #[.int .i64 u,.int .i64 n] 395)=W at HB3 d0 d1|-;generalize w2.heap.size=q;clear hW;go_region_held3 (fun w'=>w'.cell? ⟨xb,0,none⟩=some (.pointer (some ⟨mb,0,none⟩))/\w'.cell? ⟨w.heap.size,0,none⟩=some (.string t)) (first|(exact⟨d0,d1⟩)|(exact HS1.out)|go_keep)
  (first|(go_at_call 332;refine(HK.out _ (HB3.out.trans ((bl0 (by exact⟨rfl,rfl,rfl,rfl⟩)).mono HB3.out.size))).mono ?_;rintro e w3 ⟨⟨v,rfl⟩,hkp,hq⟩;have HS1:=hZ (And.intro (hkp.cell (v:=.pointer (some ⟨mb,0,none⟩)) (by exact d0) (.inr rfl)) (hkp.cell (v:=.string t) (by exact d1) (.inl (Nat.le_refl _))));have HQ:=hZ hq;clear hq hkp))
 all_goals go_wp2
 all_goals exact HQ.out
theorem qk5(xb:Nat)(mn u n:Int)(t:ByteArray)(m:Int)(w:World)(h0:mn≠0)(h3:mn≠3)
  (hM:∀w',Below w.heap.size w w'->Calls prog 318 #[.pointer (some ⟨xb,0,none⟩),.agg #[.string t,.int .i64 m]] w' fun e w2=>e=.returned (.tuple #[.int .i64 mn,.agg #[.int .i64 u,.int .i64 n]])/\Below w'.heap.size w' w2):
  Calls prog 295 #[.pointer (some ⟨xb,0,none⟩),idV t m] w fun e w'=>e=.panicked (stopP (stopV 4))/\Below w.heap.size w w':=by
 have HM:=hZ hM;have e0:(mn==0)=false:=by simpa using h0
 have e3:(mn==3)=false:=by simpa using h3
 clear hM;go_enter func295,ntmps295
 go_wp2_with (first|(go_at_call 318;refine(HM.out _ (bl1 (by exact⟨rfl,rfl,rfl,rfl⟩))).mono ?_;rintro e w2 ⟨rfl,hb⟩;refine Hid.out ?_))
 have hb2:Below w.heap.size w w2:=(qab _ _).trans (hb.mono (by simp));have HB3:Hid (Below w.heap.size w (w2.alloc (.cells #[.int .i64 u,.int .i64 n] 395))):=hb2.trans ((qab _ _).mono hb2.size);clear hb hb2 HM;refine hZ ?_;go_wp2_with (go_at_call 290;refine(qax _).mono ?_;rintro e w3 ⟨rfl,o,rfl⟩)
 exact⟨rfl,rfl,HB3.out.trans ((qab _ _).mono HB3.out.size)⟩
end
section
open Sc
theorem qhy{i:Sc.Id}:∀{l:List Sc.Id} {n:Nat},findIn i l=some n->n<l.length
 | [],n,h=>by simp[findIn]at h
 |j::r,n,h=>by
  by_cases e:j=i
  ·simp[findIn,e]at h;subst h;simp
  ·simp only[findIn,if_neg e,Option.map_eq_some_iff]at h;obtain⟨k,h1,rfl⟩:=h;have:=qhy h1;simp;omega
theorem qjp{i:Sc.Id}:∀{sc:Scope} {u n:Nat},find i sc=some (u,n)->∃l,sc[u]? =some l/\n<l.length
 | [],u,n,h=>by simp[find]at h
 |l::r,u,n,h=>by
  cases hf:findIn i l with
  |some k=>simp[find,hf]at h;obtain⟨rfl,rfl⟩:=h;exact⟨l,rfl,qhy hf⟩
  |none=>
   simp only[find,hf,Option.map_eq_some_iff]at h;obtain⟨⟨a,b⟩,h1,h2⟩:=h;cases h2;obtain⟨l',h3,h4⟩:=qjp h1;exact⟨l',by simpa using h3,h4⟩
abbrev shOf(sc:Scope):List Nat:=sc.map List.length
theorem Made.kept{G:Gh}{S:Sub}{m m0:Mc}{w w' w2:World}{sh:List Nat}{e:Ex}{e':Ending}{xb:Nat}{o:Obj}(g:Inv G S m0 w)(hx:G.I xb=some o)(h:Made G S m w' sh e e' w2):Kept xb w w' w2:=by
 obtain⟨H,x,_,hm,_⟩:=h;intro b hb hk;refine hm.blk hb fun hmem=>?_
 rcases hk with hk|rfl
 ·have:=g.ml hmem;omega
 ·have:=g.mi hmem;rw[this]at hx;cases hx
theorem var_inv{K:Rl}{X:Xe}{G:Gh}{S:Sub}{m:Mc}{x:Xs}{sc:Scope}{w:World}(g:Inv G S m w)(i:XInv K X G S x sc w)(t:ByteArray)(k:Int):
  Calls prog 295 #[bp X.xb,idV t k] w fun e' w'=>match varEx x (t.data.toList,k) sc with
   |some ex=>Made G S m w (shOf sc) ex e' w'
   |none=>e'=.panicked (stopP (stopV 4))/\Below w.heap.size w w':=by
 have c0:w.cell? ⟨X.xb,0,none⟩=some (.pointer (some ⟨G.mb,0,none⟩)):=by rw[g.cell i.xe];rfl
 have hM:∀w',Below w.heap.size w w'->Calls prog 318 #[bp X.xb,idV t k] w' fun e w2=>e=.returned (.tuple #[.int .i64 (meanN x (t.data.toList,k) sc),meanA (t.data.toList,k) sc])/\Below w'.heap.size w' w2:=fun w' hb=>qgd (g.below hb) (i.below hb) t k
 cases hf:find (t.data.toList,k) sc with
 |some p=>
  obtain⟨u,n⟩:=p;have hv:varEx x (t.data.toList,k) sc=some (.loc u n):=by simp[varEx,Xs.means,hf]
  rw[hv];have e1:meanN x (t.data.toList,k) sc=0:=by simp[meanN,hf]
  have e2:meanA (t.data.toList,k) sc=.agg #[.int .i64 (u:Int),.int .i64 (n:Int)]:=by simp[meanA,hf]
  rw[e1,e2]at hM;obtain⟨l,hl1,hl2⟩:=qjp hf;have hul:u<sc.length:=(List.getElem?_eq_some_iff.1 hl1).1;have hll:l.length<=1000000000:=i.sz.2 l (List.mem_of_getElem? hl1);refine qk6 X.xb G.mb u n t k w _ c0 hM fun w' hb=>?_
  refine Calls.mono (qr1 (sh:=shOf sc) (u:=u) (j:=n) (n:=l.length) (g.below hb) (by simp[shOf,hl1]) hl2 ⟨by have:=i.sz.1;omega,hll⟩) ?_;intro e w2 h;exact⟨Made.ends _ _ h,h.kept g i.xe,h.after (Mv.ext (Gh.ext.refl _ _) hb)⟩
 |none=>
  have e2:meanA (t.data.toList,k) sc=.agg #[.int .i64 ((0:Nat):Int),.int .i64 ((0:Nat):Int)]:=by simp[meanA,hf]
  by_cases hg:meanN x (t.data.toList,k) sc=3
  ·have hv:varEx x (t.data.toList,k) sc=some (.glo t.data.toList):=by
    unfold meanN at hg;rw[hf]at hg;simp only at hg;unfold varEx Xs.means;rw[hf];cases hk:Kw.of t.data.toList with
    |some kk=>rw[hk]at hg;simp at hg
    |none=>
     rw[hk]at hg;cases hm:x.mcr t.data.toList with
     |some mm=>rw[hm]at hg;simp at hg
     |none=>rfl
   rw[hv];rw[hg,e2]at hM;refine qk7 X.xb G.mb 0 0 t k w _ c0 hM fun w' hb=>?_
   refine Calls.mono (glo_mk (sh:=shOf sc) (t:=t) (g.below hb)) ?_;intro e w2 h;exact⟨Made.ends _ _ h,h.kept g i.xe,h.after (Mv.ext (Gh.ext.refl _ _) hb)⟩
  ·have hv:varEx x (t.data.toList,k) sc=none:=by
    unfold meanN at hg;rw[hf]at hg;simp only at hg;unfold varEx Xs.means;rw[hf];cases hk:Kw.of t.data.toList with
    |some kk=>rfl
    |none=>
     rw[hk]at hg;cases hm:x.mcr t.data.toList with
     |some mm=>rfl
     |none=>rw[hm]at hg;simp at hg
   rw[hv];rw[e2]at hM;have h0:meanN x (t.data.toList,k) sc≠0:=by
    unfold meanN;rw[hf];simp only;split
    ·decide
    ·split <;> decide
   exact qk5 X.xb _ 0 0 t k w h0 hg hM
end
section
open Sc
def useD(x:Xs)(mc:Macro)(args:List Dt)(sc:Scope):Option Dt:=match mc.rules.findSome? (fun r=>(matchL mc.lits sc r.1 args).map (fun b=>(b,r.2)))with
 |none=>none
 |some (b,t)=>match putT x.count b t with
  |none=>none
  |some d=>if parts d<=600 then some d else none
theorem use_eq(S:Sub)(x:Xs)(mc:Macro)(args:List Dt)(sc:Scope):use S x mc args sc=if S.rewrites<=(x.count:Int)then(.error 12,x)else match useD {x with count:=x.count+1} mc args sc with
  |none=>(.error 4,{x with count:=x.count+1})
  |some d=>(.ok (d,{x with count:=x.count+1}),{x with count:=x.count+1}):=by
 unfold use useD;split
 ·rfl
 ·simp only;split <;> rename_i h <;> rw[h] <;> simp only
  split <;> rename_i h2 <;> rw[h2] <;> simp only
  split <;> rfl
def rewr(S:Sub):Nat->Xs->Scope->Dt->Except Nat Dt×Xs
 |0,x,_,_=>(.error 0,x)
 |f+1,x,sc,d=>match d with
  | .list (.sym t k::r)=>match x.means (t,k) sc with
   | .mac mc=>match use S x mc r sc with
    |(.error e,x)=>(.error e,x)
    |(.ok (d,x),_)=>rewr S f x sc d
   |_=>(.ok d,x)
  |d=>(.ok d,x)
end
section
open Sc
def RwPost(K:Rl)(X:Xe)(G:Gh)(S:Sub)(m:Mc)(sc:Scope)(w:World)(rv:Except Nat Dt×Xs)(e':Ending)(w':World):Prop:=
 (∃H d' x' e2,rv=(.ok d',x')/\e'=.returned (.agg (Dl.cells e2))/\Mx X G w X H w'/\Inv H S m w'/\XInv K X H S x' sc w'/\DRep H d' e2)\/
 (∃vd x',rv=(.error vd,x')/\e'=.panicked (stopP (stopV vd))/\Cnt G S m w'/\Mt X.rb (Xs.count x') S.rewrites 12 w')
theorem qgg{x:Xs}{sc:Scope}{d:Dt}(h:(leadN x sc d).1=2):∃t k r mc,d=.list (.sym t k::r)/\x.means (t,k) sc=.mac mc/\x.mcr t=some mc/\(leadN x sc d).2=t:=by
 unfold leadN at h|-;split at h
 ·rename_i t k r;unfold meanN at h;cases hf:find (t,k) sc with
  |some p=>rw[hf]at h;simp at h
  |none=>
   rw[hf]at h;simp only at h;cases hk:Kw.of t with
   |some kk=>rw[hk]at h;simp at h
   |none=>
    rw[hk]at h;cases hm:x.mcr t with
    |none=>rw[hm]at h;simp at h
    |some mc=>exact⟨t,k,r,mc,rfl,by simp[Xs.means,hf,hk,hm],hm,rfl⟩
 ·simp at h
theorem qeq{S:Sub}{x:Xs}{sc:Scope}{d:Dt}{j:Nat}(h:(leadN x sc d).1≠2):rewr S (j+1) x sc d=(.ok d,x):=by
 unfold rewr;split
 ·rename_i t k r;have:∀mc,x.means (t,k) sc≠.mac mc:=fun mc hm=>by
   apply h;unfold Xs.means at hm;unfold leadN meanN;cases hf:find (t,k) sc with
   |some p=>rw[hf]at hm;simp at hm
   |none=>
    rw[hf]at hm;simp only at hm|-;cases hk:Kw.of t with
    |some kk=>rw[hk]at hm;simp at hm
    |none=>
     rw[hk]at hm;cases hmm:x.mcr t with
     |none=>rw[hmm]at hm;simp at hm
     |some mc=>simp[hf]
  split
  ·rename_i mc hm;exact absurd hm (this mc)
  ·rfl
 ·rfl
theorem XInv.set{K:Rl}{X:Xe}{G:Gh}{S:Sub}{x:Xs}{sc:Scope}{w:World}(i:XInv K X G S x sc w){b o:Nat}{v:Value}(hb:b∉[X.rb,X.mm,X.ab,X.bm])(hr:¬X.Rw b):XInv K X G S x sc (w.setCell ⟨b,o,none⟩ v):=by
 have kb:∀c,c≠b->(w.setCell ⟨b,o,none⟩ v).heap[c]? =w.heap[c]?:=fun c hc=>qaa (a:=⟨b,o,none⟩) c hc
 have kx:∀c,c∈[X.rb,X.mm,X.ab,X.bm]->(w.setCell ⟨b,o,none⟩ v).heap[c]? =w.heap[c]?:=fun c hc=>kb c fun e=>hb (e▸hc)
 obtain⟨L,hL,hLb⟩:=i.bd;obtain⟨es,clock,M,hm1,hm2,hm3⟩:=i.mc;refine⟨i.xe,i.mt.keep (kx _ (by simp)),i.ml,by rw[kx _ (by simp)];exact i.ab,⟨L,⟨by rw[kx _ (by simp)];exact hL.1,hL.2.1,fun p hp=>?_,hL.2.2.2⟩,hLb⟩,fun c hc=>by rw[qaf];exact i.rr c hc,⟨es,clock,M,by rw[kx _ (by simp)];exact hm1,hm2,hm3⟩,i.lo,i.nd,by rw[qaf];exact i.sl,i.sz⟩;have ho:=hL.2.2.1 p hp;refine⟨ho.1,?_⟩;rcases ho.2 with h|⟨g,cap,cur,hv,hb',hg,hr'⟩
 ·exact .inl h
 ·have hmem:g∈L.filterMap (·.2.ownBlock):=List.mem_filterMap.2 ⟨p,hp,by rw[hv];rfl⟩;exact .inr ⟨g,cap,cur,hv,hb',by rw[kb g fun e=>hr (e▸hLb g hmem)];exact hg,hr'⟩
abbrev set6(W:World)(b:Nat)(v0 v1 v2 v3 v4 v5:Value):World:=(((((W.setCell ⟨b,0,none⟩ v0).setCell ⟨b,1,none⟩ v1).setCell ⟨b,2,none⟩ v2).setCell ⟨b,3,none⟩ v3).setCell ⟨b,4,none⟩ v4).setCell ⟨b,5,none⟩ v5
theorem qed{W:World}{b t:Nat}{x0 x1 x2 x3 x4 x5 v0 v1 v2 v3 v4 v5:Value}(h:W.heap[b]? =some (.cells #[x0,x1,x2,x3,x4,x5] t (0,0))):(set6 W b v0 v1 v2 v3 v4 v5).heap[b]? =some (.cells #[v0,v1,v2,v3,v4,v5] t (0,0)):=by
 simp[World.setCell,Array.getElem?_modify,h]
theorem qnx{W:World}{b c:Nat}{v0 v1 v2 v3 v4 v5:Value}(h:c≠b):(set6 W b v0 v1 v2 v3 v4 v5).heap[c]? =W.heap[c]?:=by
 rw[qaa (a:=⟨b,5,none⟩) c h,qaa (a:=⟨b,4,none⟩) c h,qaa (a:=⟨b,3,none⟩) c h,qaa (a:=⟨b,2,none⟩) c h,qaa (a:=⟨b,1,none⟩) c h,qaa (a:=⟨b,0,none⟩) c h]
theorem qrc{G:Gh}{S:Sub}{m:Mc}{W:World}{b:Nat}{v0 v1 v2 v3 v4 v5:Value}(i:Inv G S m W)(hI:G.I b=none)(hm:b∉G.mut)(hf:¬G.F b):Inv G S m (set6 W b v0 v1 v2 v3 v4 v5):=(((((i.loose hI hm hf).loose hI hm hf).loose hI hm hf).loose hI hm hf).loose hI hm hf).loose hI hm hf
theorem set6_x{K:Rl}{X:Xe}{G:Gh}{S:Sub}{x:Xs}{sc:Scope}{W:World}{b:Nat}{v0 v1 v2 v3 v4 v5:Value}(i:XInv K X G S x sc W)(hb:b∉[X.rb,X.mm,X.ab,X.bm])(hr:¬X.Rw b):XInv K X G S x sc (set6 W b v0 v1 v2 v3 v4 v5):=(((((i.set hb hr).set hb hr).set hb hr).set hb hr).set hb hr).set hb hr
end
section
open Sc
def RetP(P:Value->World->Prop)(Q:Ending->World->Prop)(e:Ending)(w:World):Prop:=(∃ps,e=.panicked ps/\Q (.panicked ps) w)\/(∃v,e=.returned v/\P v w)
theorem qjk:(prog.info? 241).map (fun i=>(i.zero,i.size,i.bytes))=some (some .nilFunc,1,8):=by kernel_rfl
theorem qmn(xb:Nat)(xa:Option Addr)(xlen xcap:Nat)(dk:Nat->Dl)(w:World)(Q:Ending->World->Prop)(R:Nat->World->Prop)(h100:xlen<=1000000)
  (h0:∀w',Lk (w.alloc (.cells (madeCells #[.nilFunc] xlen) 241)) w'->R 0 w')
  (hrow:∀k wr,R k wr->k<xlen->∃g o,xa=some ⟨g,o,none⟩/\∀j,j<6->wr.cell? ⟨g,o+k*6+j,none⟩=(dk k).cells[j]?)
  (hcall:∀k wr,R k wr->k<xlen->∀w',Lk (wr.alloc (.cells (dk k).cells 134)) w'->Calls prog 236 #[bp xb,.agg (dk k).cells] w' (RetP (fun v w2=>(∃kc cc,v=.func (.func kc) #[] cc)/\(∃z,w2.cell? ⟨w.heap.size,k,none⟩=some z)/\w2.frozen? ⟨w.heap.size,k,none⟩=false/\∀w3,Lk (w2.setCell ⟨w.heap.size,k,none⟩ v) w3->R (k+1) w3) Q))
  (hend:∀wr,R xlen wr->Q (.returned (.slice (some ⟨w.heap.size,0,none⟩) xlen xlen)) wr):
  Calls prog 334 #[bp xb,.slice xa xlen xcap] w Q:=by
 have hmk:∀w:World,(Instr.makeSlice 426 (.int .i64 (xlen:Int)) (.int .i64 (xlen:Int))).run prog w=.ok (.slice (some ⟨w.heap.size,0,none⟩) xlen xlen) (w.alloc (.cells (madeCells #[.nilFunc] xlen) 241)):=
  fun w=>run_make_row' 426 241 .nilFunc 8 underlying426 qjk rfl .i64 .i64 xlen (by omega) (by omega) w
 have H0:=hZ h0;have HRow:=hZ hrow;have HCall:=hZ hcall;have HEnd:=hZ hend;clear h0 hrow hcall hend;go_enter func334,ntmps334
 go_wp2;go_loopw [13] (fun c wr=>∃(k:Nat),k<=xlen/\c=.int .i64 (k:Int)/\R k wr) (fun c _=>xlen-(intOf c).toNat)
 case atStart=>exact⟨0,Nat.zero_le _,rfl,H0.out _ (by exact⟨rfl,rfl,rfl,rfl⟩)⟩
 case round=>
  obtain⟨k,hk,rfl,hR⟩:=hrel;have HR:=hZ hR;clear hR;by_cases hlt:k<xlen
  ·obtain⟨⟨yk,yn,ytr,ytx,ym,ya,ylen,ycap⟩,hy⟩:∃y,y=dk k:=⟨_,rfl⟩;obtain⟨g,o,rfl,cell⟩:=HRow.out k wr HR.out hlt;rw[<-hy]at cell;have c0:wr.cell? ⟨g,o+k*6,none⟩=some (.int .i64 yk):=cell 0 (by omega);have c1:wr.cell? ⟨g,o+k*6+1,none⟩=some (.int .i64 yn):=cell 1 (by omega);have c2:wr.cell? ⟨g,o+k*6+2,none⟩=some (.bool ytr):=cell 2 (by omega);have c3:wr.cell? ⟨g,o+k*6+3,none⟩=some (.string ytx):=cell 3 (by omega);have c4:wr.cell? ⟨g,o+k*6+4,none⟩=some (.int .i64 ym):=cell 4 (by omega);have c5:wr.cell? ⟨g,o+k*6+5,none⟩=some (.slice ya ylen ycap):=cell 5 (by omega);have hc:=HCall.out k wr HR.out hlt;rw[<-hy]at hc;have HC:=hZ hc;clear cell hc hy;have hkl':(k:Int)<(xlen:Int):=by omega
   go_wp2_with (go_at_call 236;refine(HC.out _ (by exact⟨rfl,rfl,rfl,rfl⟩)).mono ?_;rintro e w2 (⟨ps,rfl,hq⟩|⟨v,rfl,⟨kc,cc,rfl⟩,⟨z,cz⟩,fz,hK⟩);(exact⟨rfl,hq⟩);have HK:=hZ hK;clear hK;refine Hid.out ?_)
   refine hZ ?_;go_wp2;go_roundw
   case rel=>exact⟨k+1,by omega,by go_num,HK.out _ (by exact⟨rfl,rfl,rfl,rfl⟩)⟩
   case measure=>simp[intOf];omega
  ·have hke:k=xlen:=by omega
   have hR:=HR.out;rw[hke]at hR;have HR2:=hZ hR;clear hR HR;have hnl:¬(k:Int)<(xlen:Int):=by omega
   clear hke;go_wp2;exact HEnd.out _ HR2.out
end
section
open Sc
def RQ(Q:Ending->World->Prop):Ending->World->Prop:=RetP (fun v w=>Q (.returned v) w) Q
theorem RQ.of{Q:Ending->World->Prop}{e:Ending}{w:World}(h:Q e w)(he:(∃v,e=.returned v)\/(∃ps,e=.panicked ps)):RQ Q e w:=by
 rcases he with⟨v,rfl⟩|⟨ps,rfl⟩
 ·exact .inr ⟨v,rfl,h⟩
 ·exact .inl ⟨ps,rfl,h⟩
theorem qpb(xb mb:Nat)(xk xn:Int)(xtr:Bool)(xtx:ByteArray)(xm:Int)(xa:Option Addr)(xlen xcap:Nat)(w:World)(Q:Ending->World->Prop)(hxb:xb<w.heap.size)
  (hR:∀w',Lk (w.alloc (.cells (Dl.cells ⟨xk,xn,xtr,xtx,xm,xa,xlen,xcap⟩) 134)) w'->Calls prog 231 #[bp xb,.agg (Dl.cells ⟨xk,xn,xtr,xtx,xm,xa,xlen,xcap⟩)] w' (RetP (fun v w2=>∃e2:Dl,v=.agg e2.cells/\w2.heap[w.heap.size]? =some (.cells (Dl.cells ⟨xk,xn,xtr,xtx,xm,xa,xlen,xcap⟩) 134 (0,0))/\w2.cell? ⟨xb,0,none⟩=some (bp mb)/\
   ∀W,Lk (set6 w2 w.heap.size (.int .i64 e2.k) (.int .i64 e2.n) (.bool e2.tr) (.string e2.tx) (.int .i64 e2.m) (.slice e2.a e2.len e2.cap)) W->
    (e2.k=3->∀W',Below W.heap.size W W'->Calls prog 295 #[bp xb,idV e2.tx e2.m] W' (RQ Q))/\(e2.k=4->Calls prog 297 #[bp xb,.agg e2.cells] W (RQ Q))/\(e2.k≠3->e2.k≠4->Calls prog 298 #[bp mb,.agg e2.cells] W (RQ Q))) Q)):
  Calls prog 236 #[bp xb,.agg (Dl.cells ⟨xk,xn,xtr,xtx,xm,xa,xlen,xcap⟩)] w Q:=by
 have HR:=hZ hR;clear hR;go_enter func236,ntmps236
 go_wp2_with (go_at_call 231;refine(HR.out _ (by exact⟨rfl,rfl,rfl,rfl⟩)).mono ?_;rintro e w2 (⟨ps,rfl,hq⟩|⟨v,rfl,⟨zk,zn,ztr,ztx,zm,za,zlen,zcap⟩,rfl,hbx,cx,hK⟩);(exact⟨rfl,hq⟩);refine Hid.out ?_)
 have t0:w2.cell? ⟨w.heap.size,0,none⟩=some (.int .i64 xk):=by simp only[World.cell?,hbx];rfl
 have t1:w2.cell? ⟨w.heap.size,1,none⟩=some (.int .i64 xn):=by simp only[World.cell?,hbx];rfl
 have t2:w2.cell? ⟨w.heap.size,2,none⟩=some (.bool xtr):=by simp only[World.cell?,hbx];rfl
 have t3:w2.cell? ⟨w.heap.size,3,none⟩=some (.string xtx):=by simp only[World.cell?,hbx];rfl
 have t4:w2.cell? ⟨w.heap.size,4,none⟩=some (.int .i64 xm):=by simp only[World.cell?,hbx];rfl
 have t5:w2.cell? ⟨w.heap.size,5,none⟩=some (.slice xa xlen xcap):=by simp only[World.cell?,hbx];rfl
 have tf:∀o,w2.frozen? ⟨w.heap.size,o,none⟩=false:=fun o=>by simp[World.frozen?,hbx]
 have hs6:=qed (v0:=.int .i64 zk) (v1:=.int .i64 zn) (v2:=.bool ztr) (v3:=.string ztx) (v4:=.int .i64 zm) (v5:=.slice za zlen zcap) hbx;have s0:(set6 w2 w.heap.size (.int .i64 zk) (.int .i64 zn) (.bool ztr) (.string ztx) (.int .i64 zm) (.slice za zlen zcap)).cell? ⟨w.heap.size,0,none⟩=some (.int .i64 zk):=by simp only[World.cell?,hs6];rfl
 have s1:(set6 w2 w.heap.size (.int .i64 zk) (.int .i64 zn) (.bool ztr) (.string ztx) (.int .i64 zm) (.slice za zlen zcap)).cell? ⟨w.heap.size,1,none⟩=some (.int .i64 zn):=by simp only[World.cell?,hs6];rfl
 have s2:(set6 w2 w.heap.size (.int .i64 zk) (.int .i64 zn) (.bool ztr) (.string ztx) (.int .i64 zm) (.slice za zlen zcap)).cell? ⟨w.heap.size,2,none⟩=some (.bool ztr):=by simp only[World.cell?,hs6];rfl
 have s3:(set6 w2 w.heap.size (.int .i64 zk) (.int .i64 zn) (.bool ztr) (.string ztx) (.int .i64 zm) (.slice za zlen zcap)).cell? ⟨w.heap.size,3,none⟩=some (.string ztx):=by simp only[World.cell?,hs6];rfl
 have s4:(set6 w2 w.heap.size (.int .i64 zk) (.int .i64 zn) (.bool ztr) (.string ztx) (.int .i64 zm) (.slice za zlen zcap)).cell? ⟨w.heap.size,4,none⟩=some (.int .i64 zm):=by simp only[World.cell?,hs6];rfl
 have s5:(set6 w2 w.heap.size (.int .i64 zk) (.int .i64 zn) (.bool ztr) (.string ztx) (.int .i64 zm) (.slice za zlen zcap)).cell? ⟨w.heap.size,5,none⟩=some (.slice za zlen zcap):=by simp only[World.cell?,hs6];rfl
 have sx:(set6 w2 w.heap.size (.int .i64 zk) (.int .i64 zn) (.bool ztr) (.string ztx) (.int .i64 zm) (.slice za zlen zcap)).cell? ⟨xb,0,none⟩=some (bp mb):=by
  have:=qnx (W:=w2) (b:=w.heap.size) (c:=xb) (v0:=.int .i64 zk) (v1:=.int .i64 zn) (v2:=.bool ztr) (v3:=.string ztx) (v4:=.int .i64 zm) (v5:=.slice za zlen zcap) (by omega);simp only[World.cell?,this]at cx|-;exact cx
 have HK:=hZ hK;clear hK hbx hs6 HR;by_cases h3:zk=3
 ·subst h3;have HK3:Hid (∀W',Below (set6 w2 w.heap.size (.int .i64 3) (.int .i64 zn) (.bool ztr) (.string ztx) (.int .i64 zm) (.slice za zlen zcap)).heap.size (set6 w2 w.heap.size (.int .i64 3) (.int .i64 zn) (.bool ztr) (.string ztx) (.int .i64 zm) (.slice za zlen zcap)) W'->Calls prog 295 #[bp xb,.agg #[.string ztx,.int .i64 zm]] W' (RQ Q)):=(HK.out (set6 w2 w.heap.size (.int .i64 3) (.int .i64 zn) (.bool ztr) (.string ztx) (.int .i64 zm) (.slice za zlen zcap)) ⟨rfl,rfl,rfl,rfl⟩).1 rfl;clear HK;refine hZ ?_;go_wp2_with (first|(go_at_call 296;refine(qbt zn ztr ztx zm za zlen zcap _).mono ?_;rintro e w3 ⟨rfl,hb⟩;have HB:=hZ hb;clear hb)|(go_at_call 295;refine(HK3.out _ HB.out).mono ?_;rintro e w3 (⟨ps,rfl,hq⟩|⟨v,rfl,hq⟩);(exact⟨rfl,hq⟩);have HQ:=hZ hq;clear hq))
  exact HQ.out
 ·by_cases h4:zk=4
  ·subst h4;refine hZ ?_;go_wp2_with (first|(go_at_call 297;refine((HK.out _ (by exact⟨rfl,rfl,rfl,rfl⟩)).2.1 rfl).mono ?_;rintro e w3 (⟨ps,rfl,hq⟩|⟨v,rfl,hq⟩);(exact⟨rfl,hq⟩);have HQ:=hZ hq;clear hq))
   exact HQ.out
  ·have e3:(zk==3)=false:=by simpa using h3
   have e4:(zk==4)=false:=by simpa using h4
   have HK3:Hid (∀W,Lk (set6 w2 w.heap.size (.int .i64 zk) (.int .i64 zn) (.bool ztr) (.string ztx) (.int .i64 zm) (.slice za zlen zcap)) W->Calls prog 298 #[bp mb,.agg #[.int .i64 zk,.int .i64 zn,.bool ztr,.string ztx,.int .i64 zm,.slice za zlen zcap]] W (RQ Q)):=fun W hW=>(HK.out W hW).2.2 h3 h4
   clear HK h3 h4;refine hZ ?_;go_wp2_with (fail)
   unfold set6 at s0 s1 s2 s3 s4 s5 sx HK3;generalize (((((w2.setCell ⟨w.heap.size,0,none⟩ (.int .i64 zk)).setCell ⟨w.heap.size,1,none⟩ (.int .i64 zn)).setCell ⟨w.heap.size,2,none⟩ (.bool ztr)).setCell ⟨w.heap.size,3,none⟩ (.string ztx)).setCell ⟨w.heap.size,4,none⟩ (.int .i64 zm)).setCell ⟨w.heap.size,5,none⟩ (.slice za zlen zcap)=W at s0 s1 s2 s3 s4 s5 sx HK3|-;clear t0 t1 t2 t3 t4 t5 tf cx;refine qai 5 (by kernel_rfl) (by kernel_rfl) ?_;simp only[List.take_succ_cons,List.take_zero,List.drop_succ_cons,List.drop_zero];repeat still_step
   refine wpStill_nil ?_;go_wp2_with (first|(go_at_call 298;refine(HK3.out _ (by exact⟨rfl,rfl,rfl,rfl⟩)).mono ?_;rintro e w3 (⟨ps,rfl,hq⟩|⟨v,rfl,hq⟩);(exact⟨rfl,hq⟩);have HQ:=hZ hq;clear hq))
   exact HQ.out
end
end Go.Proofs.YtldaocpojcfljaaGreatDoor
