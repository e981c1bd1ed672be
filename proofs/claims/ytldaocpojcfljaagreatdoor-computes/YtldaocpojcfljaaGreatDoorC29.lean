import Derived.Test.YtldaocpojcfljaaGreatDoorC28
set_option maxRecDepth 100000
set_option maxHeartbeats 4000000
namespace Go.Proofs.YtldaocpojcfljaaGreatDoor
open Tryz hiding parts
open Go.RowKit Go.Shelf
section
open Sc
structure Rl where
 R:Gh→Macro→Value→Prop
 mono:∀{G H:Gh} {mc:Macro} {v:Value},G.le H→R G mc v→R H mc v
inductive McRows (R:Gh→Macro→Value→Prop) (G:Gh):List Macro→List (Bs×Value)→Prop where
 |nil:McRows R G [] []
 |cons (mc:Macro) (v:Value) (ms:List Macro) (L:List (Bs×Value)) (h:R G mc v) (hn:∀m,m∈ms→m.name≠mc.name) (hs:McRows R G ms L):McRows R G (mc::ms) ((mc.name,v)::L)
theorem McRows.mono {K:Rl} {G H:Gh} (h:G.le H):∀{ms L},McRows K.R G ms L→McRows K.R H ms L
 |_,_,.nil=>.nil
 |_,_,.cons mc v ms L a n b=>.cons mc v ms L (K.mono h a) n (McRows.mono h b)
structure XInv (K:Rl) (X:Xe) (G:Gh) (S:Sub) (x:Xs) (sc:Scope) (w:World):Prop where
 xe:G.I X.xb=some (.cells #[bp G.mb,bp X.rb,.map (some X.mm),bp X.ab] 331 (0,0))
 mt:Mt X.rb x.count S.rewrites 12 w
 ml:(x.count:Int)≤S.rewrites∧S.rewrites≤100000
 ab:w.heap[X.ab]? =some (.cells #[.int .i64 (sc.length:Int),.map (some X.bm)] 329 (0,0))
 bd:∃L,ScMap X sc w L∧∀b,b∈L.filterMap (·.2.ownBlock)→X.Rw b
 rr:∀b,X.Rw b→G.I b=none∧b∉G.mut∧X.lo≤b∧b<w.heap.size∧¬G.F b
 mc:∃es clock L,w.heap[X.mm]? =some (.map es clock)∧es.toList.map (fun e=>(e.key,e.val))=L.map (fun p=>(Value.string ⟨p.1.toArray⟩,p.2))∧McRows K.R G x.macros L
 lo:∀b,b∈[X.rb,X.mm,X.ab,X.bm]→G.I b=none∧b∉G.mut∧b<X.lo∧¬G.F b
 nd:[X.rb,X.mm,X.ab,X.bm].Nodup
 sl:X.lo≤w.heap.size
 sz:sc.length≤1000000000∧∀l,l∈sc→l.length≤1000000000
theorem XInv.mv {K:Rl} {X:Xe} {G H:Gh} {S:Sub} {x:Xs} {sc:Scope} {w w':World} (m:Mv G w H w') (i:XInv K X G S x sc w):XInv K X H S x sc w':=by
 have kb:∀b,b∈[X.rb,X.mm,X.ab,X.bm]→w'.heap[b]? =w.heap[b]?:=fun b hb=>by
  obtain⟨h1,h2,h3,_⟩:=i.lo b hb
  exact m.blk (Nat.lt_of_lt_of_le h3 i.sl) h2
 have hH:∀b,b<w.heap.size→G.I b=none∧b∉G.mut→H.I b=none∧b∉H.mut:=fun b hb h=>⟨by rw [m.I hb];exact h.1,fun hm=>(m.mu hm).elim h.2 (fun h=>by omega)⟩
 obtain⟨L,hL,hLb⟩:=i.bd
 obtain⟨es,clock,M,hm1,hm2,hm3⟩:=i.mc
 refine⟨by rw [m.up.le.mb];exact m.up.le.I i.xe,i.mt.keep (kb _ (by simp)),i.ml,by rw [kb _ (by simp)];exact i.ab,⟨L,⟨?_,hL.2.1,fun p hp=>?_,hL.2.2.2⟩,hLb⟩,fun b hb=>?_,⟨es,clock,M,by rw [kb _ (by simp)];exact hm1,hm2,hm3.mono m.up.le⟩,fun b hb=>?_,i.nd,Nat.le_trans i.sl m.size,i.sz⟩
 ·rw [kb _ (by simp)];exact hL.1
 ·have ho:=hL.2.2.1 p hp
  refine⟨ho.1,?_⟩
  rcases ho.2 with h|⟨g,cap,cur,hv,hb,hg,hr⟩
  ·exact .inl h
  ·have hmem:g∈L.filterMap (·.2.ownBlock):=List.mem_filterMap.2 ⟨p,hp,by rw [hv];rfl⟩
   exact .inr ⟨g,cap,cur,hv,hb,by rw [m.blk (Array.getElem?_eq_some_iff.1 hg).1 (i.rr g (hLb g hmem)).2.1];exact hg,hr⟩
 ·obtain⟨h1,h2,h3,h4,h5⟩:=i.rr b hb
  have:=hH b h4 ⟨h1,h2⟩
  exact⟨this.1,this.2,h3,Nat.lt_of_lt_of_le h4 m.size,by rw [m.up.F];exact h5⟩
 ·obtain⟨h1,h2,h3,h4⟩:=i.lo b hb
  have:=hH b (Nat.lt_of_lt_of_le h3 i.sl) ⟨h1,h2⟩
  exact⟨this.1,this.2,h3,by rw [m.up.F];exact h4⟩
theorem XInv.below {K:Rl} {X:Xe} {G:Gh} {S:Sub} {x:Xs} {sc:Scope} {w w':World} (i:XInv K X G S x sc w) (h:Below w.heap.size w w'):XInv K X G S x sc w':=i.mv (Mv.ext (Gh.ext.refl _ _) h)
def findV (i:Sc.Id) (sc:Scope):Value:=match find i sc with
 |some (u,n)=>.tuple #[.agg #[.int .i64 (u:Int),.int .i64 (n:Int)],.bool true]
 |none=>.tuple #[.agg #[.int .i64 0,.int .i64 0],.bool false]
theorem qsp {K:Rl} {X:Xe} {G:Gh} {S:Sub} {x:Xs} {sc:Scope} {w:World} (i:XInv K X G S x sc w) (t:ByteArray) (m:Int):
  Calls prog 354 #[bp X.ab,idV t m] w fun e w'=>e=.returned (findV (t.data.toList,m) sc)∧Below w.heap.size w w':=by
 obtain⟨L,hL,hLb⟩:=i.bd
 obtain⟨⟨es,clock,hb1,hb2,_⟩,hnd,hown,hnone,hblk⟩:=hL
 have c0:w.cell? ⟨X.ab,0,none⟩=some (.int .i64 (sc.length:Int)):=by simp [World.cell?,i.ab]
 have c1:w.cell? ⟨X.ab,1,none⟩=some (.map (some X.bm)):=by simp [World.cell?,i.ab]
 have hbl:X.bm<w.heap.size:=(Array.getElem?_eq_some_iff.1 hb1).1
 have hlk:∀w',w'.heap[X.bm]? =w.heap[X.bm]?→(Instr.lookup 327 (.map (some X.bm)) (idV t m) false).run prog w'=.ok ((lookI (t.data.toList,m) L).getD (.slice none 0 0)) w':=fun w' hw=>qen X.bm es clock L t m w' (hw.trans hb1) hb2
 have none':spots (t.data.toList,m) sc=[]→(∃a cap,(lookI (t.data.toList,m) L).getD (.slice none 0 0)=.slice a 0 cap)→Calls prog 354 #[bp X.ab,idV t m] w fun e w'=>e=.returned (findV (t.data.toList,m) sc)∧Below w.heap.size w w':=fun hs ⟨a,cap,hv⟩=>by
  rw [hv]at hlk
  refine Calls.mono (qh0 X.ab X.bm cap a 0 t m w c1 hbl hlk) ?_
  rintro e w' ⟨rfl,hb⟩
  refine⟨?_,hb⟩
  have:find (t.data.toList,m) sc=none:=by rw [qdp,hs];rfl
  simp [findV,this]
 cases hl:lookI (t.data.toList,m) L with
 |none=>exact none' (hnone _ hl) ⟨none,0,by rw [hl];rfl⟩
 |some v=>
  have ho:=hown _ (qb5 hl)
  simp only at ho
  rcases ho.2 with⟨hv,h0⟩|⟨g,cap,cur,hv,hb,hg,hn,hm,hsz,htk⟩
  ·exact none' (List.eq_nil_of_length_eq_zero h0) ⟨none,0,by rw [hl,hv];rfl⟩
  ·cases hs:(spots (t.data.toList,m) sc).reverse with
   |nil=>
    have hs':spots (t.data.toList,m) sc=[]:=by simpa using hs
    exact none' hs' ⟨some ⟨g,0,none⟩,cap,by rw [hl,hv,hs'];rfl⟩
   |cons p r=>
    have hs':spots (t.data.toList,m) sc=r.reverse++[p]:=by rw [←List.reverse_reverse (spots _ _),hs];simp
    have hlen:(spots (t.data.toList,m) sc).length=r.length+1:=by rw [hs'];simp
    have hp:(spots (t.data.toList,m) sc)[r.length]? =some p:=by rw [hs'];simp
    obtain⟨s0,s1⟩:=qg7 _ _ _ hp
    have hle:=qf3 (i:=(t.data.toList,m)) (sc:=sc) (p:=p) (by rw [hs'];simp)
    have cc:∀k v,(spotCells (spots (t.data.toList,m) sc))[k]? =some v→w.cell? ⟨g,k,none⟩=some v:=fun k v hk=>by
     rw [←htk,List.getElem?_take]at hk
     split at hk
     ·simp only [World.cell?,hg];simpa using hk
     ·cases hk
    have hlk':∀w',w'.heap[X.bm]? =w.heap[X.bm]?→(Instr.lookup 327 (.map (some X.bm)) (idV t m) false).run prog w'=.ok (.slice (some ⟨g,0,none⟩) (r.length+1) cap) w':=fun w' hw=>by
     rw [hlk w' hw,hl,hv,hlen];rfl
    have hrl:r.length+1≤sc.length:=by
     rw [←hlen];exact qea _ _
    have:=i.sz.1
    refine Calls.mono (qhz X.ab X.bm cap g r.length sc.length p.1 p.2 t m w c0 c1 hbl hlk' (cc _ _ (by rw [Nat.mul_comm];exact s0)) (cc _ _ (by rw [Nat.mul_comm];exact s1)) (by omega) (by omega) (by omega)) ?_
    rintro e w' ⟨rfl,hb'⟩
    refine⟨?_,hb'⟩
    have hf:find (t.data.toList,m) sc=some (sc.length-p.1,p.2):=by rw [qdp,hs'];simp
    have e1:((sc.length-p.1:Nat):Int)=(sc.length:Int)-p.1:=by omega
    simp only [findV,hf,e1]
structure Mx (X:Xe) (G:Gh) (w:World) (Y:Xe) (H:Gh) (w':World):Prop where
 same:Y.xb=X.xb∧Y.rb=X.rb∧Y.mm=X.mm∧Y.ab=X.ab∧Y.bm=X.bm∧Y.lo=X.lo
 up:G.up H
 I:∀{b:Nat},b<w.heap.size→H.I b=G.I b
 mu:∀{b:Nat},b∈H.mut→b∈G.mut∨w.heap.size≤b
 rw:∀{b:Nat},Y.Rw b→X.Rw b∨w.heap.size≤b
 blk:∀{k:Nat},k<w.heap.size→k∉G.mut→k∉[X.rb,X.mm,X.ab,X.bm]→¬X.Rw k→w'.heap[k]? =w.heap[k]?
 size:w.heap.size≤w'.heap.size
theorem Mx.of {X:Xe} {G H:Gh} {w w':World} (m:Mv G w H w'):Mx X G w X H w':=⟨⟨rfl,rfl,rfl,rfl,rfl,rfl⟩,m.up,m.I,m.mu,.inl,fun h1 h2 _ _=>m.blk h1 h2,m.size⟩
theorem Mx.refl (X:Xe) (G:Gh) (w:World):Mx X G w X G w:=Mx.of (Mv.refl G w)
theorem Mx.trans {X Y Z:Xe} {G H L:Gh} {w w1 w2:World} (a:Mx X G w Y H w1) (b:Mx Y H w1 Z L w2):Mx X G w Z L w2:=by
 obtain⟨s1,s2,s3,s4,s5,s6⟩:=a.same
 obtain⟨t1,t2,t3,t4,t5,t6⟩:=b.same
 refine⟨⟨t1.trans s1,t2.trans s2,t3.trans s3,t4.trans s4,t5.trans s5,t6.trans s6⟩,a.up.trans b.up,fun h=>(b.I (Nat.lt_of_lt_of_le h a.size)).trans (a.I h),fun h=>(b.mu h).elim a.mu (fun h=>.inr (Nat.le_trans a.size h)),fun h=>(b.rw h).elim a.rw (fun h=>.inr (Nat.le_trans a.size h)),fun {k} h1 h2 h3 h4=>?_,Nat.le_trans a.size b.size⟩
 rw [b.blk (Nat.lt_of_lt_of_le h1 a.size) (fun h=>(a.mu h).elim h2 (fun h=>by omega)) (by rw [s2,s3,s4,s5];exact h3) (fun h=>(a.rw h).elim h4 (fun h=>by omega)),a.blk h1 h2 h3 h4]
theorem Mx.lk {X Y:Xe} {G H:Gh} {w w1 w2:World} (a:Mx X G w Y H w1) (h:Lk w1 w2):Mx X G w Y H w2:=⟨a.same,a.up,a.I,a.mu,a.rw,fun h1 h2 h3 h4=>by rw [h.heap];exact a.blk h1 h2 h3 h4,by rw [h.heap];exact a.size⟩
end
section
open Sc
theorem qam (w:World):Calls prog 290 #[.bool true] w fun e w'=>e=.returned (.tuple #[])∧w'=w:=by
 go_enter func290,ntmps290
 go_wp2_with (go_at_call 273;refine(qbi _ _).mono ?_;rintro e w2 ⟨rfl,hww⟩;obtain rfl:=hww.symm)
 go_end0
 exact⟨rfl,rfl⟩
theorem qax (w:World):Calls prog 290 #[.bool false] w fun e w'=>e=.panicked (stopP (stopV 4))∧∃o,w'=w.alloc o:=by
 go_enter func290,ntmps290
 go_wp2_with (go_at_call 273;refine(qbh _ _).mono ?_;rintro e w2 ⟨rfl,o,rfl⟩)
 exact⟨rfl,rfl,o,rfl⟩
theorem qa9 (t:ByteArray) (l:List UInt8):(t.toList==l)=decide (t.data.toList=l):=by
 rw [ByteArray.toList_eq]
 by_cases h:t.data.toList=l <;> simp [h]
theorem qo0 (s:Bs):(Kw.of s).isSome=(decide (s=[113,117,111,116,101])||decide (s=[105,102])||decide (s=[100,101,102,105,110,101])||decide (s=[115,101,116,33])||decide (s=[108,97,109,98,100,97])||decide (s=[108,101,116])||decide (s=[98,101,103,105,110])||decide (s=[100,101,102,105,110,101,45,115,121,110,116,97,120])):=by
 unfold Kw.of
 by_cases h1:s=[113,117,111,116,101]
 ·simp [h1]
 by_cases h2:s=[105,102]
 ·simp [h2]
 by_cases h3:s=[100,101,102,105,110,101]
 ·simp [h3]
 by_cases h4:s=[115,101,116,33]
 ·simp [h4]
 by_cases h5:s=[108,97,109,98,100,97]
 ·simp [h5]
 by_cases h6:s=[108,101,116]
 ·simp [h6]
 by_cases h7:s=[98,101,103,105,110]
 ·simp [h7]
 by_cases h8:s=[100,101,102,105,110,101,45,115,121,110,116,97,120]
 ·simp [h8]
 simp [h1,h2,h3,h4,h5,h6,h7,h8]
theorem qgi (t:ByteArray) (w:World):Calls prog 320 #[.string t] w fun e w'=>e=.returned (.bool (Kw.of t.data.toList).isSome)∧Lk w w':=by
 rw [qo0]
 have h1:=qa9 t [113,117,111,116,101]
 have h2:=qa9 t [105,102]
 have h3:=qa9 t [100,101,102,105,110,101]
 have h4:=qa9 t [115,101,116,33]
 have h5:=qa9 t [108,97,109,98,100,97]
 have h6:=qa9 t [108,101,116]
 have h7:=qa9 t [98,101,103,105,110]
 have h8:=qa9 t [100,101,102,105,110,101,45,115,121,110,116,97,120]
 generalize decide (t.data.toList=[113,117,111,116,101])=b1 at h1⊢
 generalize decide (t.data.toList=[105,102])=b2 at h2⊢
 generalize decide (t.data.toList=[100,101,102,105,110,101])=b3 at h3⊢
 generalize decide (t.data.toList=[115,101,116,33])=b4 at h4⊢
 generalize decide (t.data.toList=[108,97,109,98,100,97])=b5 at h5⊢
 generalize decide (t.data.toList=[108,101,116])=b6 at h6⊢
 generalize decide (t.data.toList=[98,101,103,105,110])=b7 at h7⊢
 generalize decide (t.data.toList=[100,101,102,105,110,101,45,115,121,110,116,97,120])=b8 at h8⊢
 go_enter func320,ntmps320
 go_wp2
 all_goals clear h1 h2 h3 h4 h5 h6 h7 h8
 all_goals go_ret
 all_goals first
  |(exfalso;simp_all;done)
  |(refine⟨?_,rfl,rfl,rfl,rfl⟩;simp_all)
theorem qbt (xn:Int) (xtr:Bool) (xtx:ByteArray) (xm:Int) (xa:Option Addr) (xlen xcap:Nat) (w:World):Calls prog 296 #[.agg (Dl.cells ⟨3,xn,xtr,xtx,xm,xa,xlen,xcap⟩)] w fun e w'=>e=.returned (idV xtx xm)∧Below w.heap.size w w':=by
 go_enter func296,ntmps296
 go_wp2_with (go_at_call 290;refine(qam _).mono ?_;rintro e w2 ⟨rfl,hww⟩;obtain rfl:=hww.symm)
 refine bodyPost_ret (v:=idV xtx xm) (by simp [results,results296,go_sem, *]) rfl ?_
 exact⟨rfl,bl2 (by exact⟨rfl,rfl,rfl,rfl⟩)⟩
theorem qgk (xk xn:Int) (xtr:Bool) (xtx:ByteArray) (xm:Int) (xa:Option Addr) (xlen xcap:Nat) (w:World) (hk:xk≠3):Calls prog 296 #[.agg (Dl.cells ⟨xk,xn,xtr,xtx,xm,xa,xlen,xcap⟩)] w fun e w'=>e=.panicked (stopP (stopV 4))∧Below w.heap.size w w':=by
 have hk':(xk==3)=false:=by simpa using hk
 go_enter func296,ntmps296
 go_wp2_with (go_at_call 290;refine(qax _).mono ?_;rintro e w2 ⟨rfl,o,rfl⟩)
 exact⟨rfl,rfl,(bl2 (by exact⟨rfl,rfl,rfl,rfl⟩)).trans ((qab _ _).mono (by simp;omega))⟩
def meanN (x:Xs) (i:Sc.Id) (sc:Scope):Int:=match find i sc with
 |some _=>0
 |none=>if(Kw.of i.1).isSome then 1 else if(x.mcr i.1).isSome then 2 else 3
def meanA (i:Sc.Id) (sc:Scope):Value:=match find i sc with
 |some (u,n)=>.agg #[.int .i64 (u:Int),.int .i64 (n:Int)]
 |none=>.agg #[.int .i64 0,.int .i64 0]
theorem qc5 {W:World} {b t:Nat} {x y u v:Value} (h:W.heap[b]? =some (.cells #[x,y] t (0,0))):((W.setCell ⟨b,0,none⟩ u).setCell ⟨b,1,none⟩ v).heap[b]? =some (.cells #[u,v] t (0,0)):=by
 simp [World.setCell,Array.getElem?_modify,h]
theorem qaz {w W W':World} {b:Nat} {u v:Value} (hb:w.heap.size≤b) (h:Below w.heap.size w W) (hl:Lk ((W.setCell ⟨b,0,none⟩ u).setCell ⟨b,1,none⟩ v) W'):Below w.heap.size w W':=
 ⟨hl.os.trans h.os,hl.tape.trans h.tape,hl.output.trans h.output,by rw [hl.heap,qaf,qaf];exact h.size,fun k hk=>by
  rw [hl.heap,qaa (a:=⟨b,1,none⟩) k (by show k≠b;omega),qaa (a:=⟨b,0,none⟩) k (by show k≠b;omega)];exact h.block k hk⟩
theorem mean318 (xb _mb _rb mm ab:Nat) (t:ByteArray) (m:Int) (bd kw mac:Bool) (u n:Int) (vr:Value) (w:World) (c3:w.cell? ⟨xb,3,none⟩=some (.pointer (some ⟨ab,0,none⟩))) (c2:w.cell? ⟨xb,2,none⟩=some (.map (some mm)))
  (hF:∀w',Below w.heap.size w w'→Calls prog 354 #[.pointer (some ⟨ab,0,none⟩),idV t m] w' fun e w2=>e=.returned (.tuple #[.agg #[.int .i64 u,.int .i64 n],.bool bd])∧Below w'.heap.size w' w2)
  (hL:∀w',Below w.heap.size w w'→(Instr.lookup 325 (.map (some mm)) (.string t) true).run prog w'=.ok (.tuple #[vr,.bool mac]) w')
  (hK:∀w',Calls prog 320 #[.string t] w' fun e w2=>e=.returned (.bool kw)∧Lk w' w2):
  Calls prog 318 #[.pointer (some ⟨xb,0,none⟩),idV t m] w fun e w'=>e=.returned (.tuple #[.int .i64 (if bd then 0 else if kw then 1 else if mac then 2 else 3),.agg #[.int .i64 u,.int .i64 n]])∧Below w.heap.size w w':=by
 have l1:=qac c3
 have HL:=hZ hL
 have HK:=hZ hK
 have keep:∀{w' w2:World},Below w'.heap.size w' w2→∀{b k:Nat} {v:Value},w'.cell? ⟨b,k,none⟩=some v→w2.cell? ⟨b,k,none⟩=some v:=fun {w' w2} hB {b k v} hv=>(hB.cell (p:=⟨b,k,none⟩) (qac hv)).trans hv
 have base:∀{w':World},Lk ((w.alloc (.cells #[.string t,.int .i64 m] 382)).alloc (.cells #[.int .i64 0,.int .i64 0] 395)) w'→w'.cell? ⟨xb,3,none⟩=some (.pointer (some ⟨ab,0,none⟩))∧w'.cell? ⟨xb,2,none⟩=some (.map (some mm))∧w'.cell? ⟨w.heap.size,0,none⟩=some (.string t)∧w'.cell? ⟨w.heap.size,1,none⟩=some (.int .i64 m):=fun {w'} hw=>by
  have e:∀b k,w'.cell? ⟨b,k,none⟩=((w.alloc (.cells #[.string t,.int .i64 m] 382)).alloc (.cells #[.int .i64 0,.int .i64 0] 395)).cell? ⟨b,k,none⟩:=fun b k=>by simp only [World.cell?,hw.heap]
  have hn:=heap_alloc_new w (.cells #[.string t,.int .i64 m] 382)
  refine⟨by rw [e];exact qaj (qaj c3),by rw [e];exact qaj (qaj c2),by rw [e];exact qaj (by simp only [World.cell?,hn];rfl),by rw [e];exact qaj (by simp only [World.cell?,hn];rfl)⟩
 have HFa:Hid (∀w',Lk ((w.alloc (.cells #[.string t,.int .i64 m] 382)).alloc (.cells #[.int .i64 0,.int .i64 0] 395)) w'→Calls prog 354 #[.pointer (some ⟨ab,0,none⟩),.agg #[.string t,.int .i64 m]] w' fun e w2=>e=.returned (.tuple #[.agg #[.int .i64 u,.int .i64 n],.bool bd])∧(w2.cell? ⟨xb,3,none⟩=some (.pointer (some ⟨ab,0,none⟩))∧w2.cell? ⟨xb,2,none⟩=some (.map (some mm))∧w2.cell? ⟨w.heap.size,0,none⟩=some (.string t)∧w2.cell? ⟨w.heap.size,1,none⟩=some (.int .i64 m))∧Below w.heap.size w w2∧w2.heap[w.heap.size+1]? =some (.cells #[.int .i64 0,.int .i64 0] 395 (0,0))):=fun w' hw=>Calls.mono (hF w' (bl2 hw)) fun e w2 ⟨he,hB⟩=>by
  obtain⟨b1,b2,b3,b4⟩:=base hw
  have hr:w'.heap[w.heap.size+1]? =some (.cells #[.int .i64 0,.int .i64 0] 395 (0,0)):=by
   have:=heap_alloc_new (w.alloc (.cells #[.string t,.int .i64 m] 382)) (.cells #[.int .i64 0,.int .i64 0] 395)
   rw [hw.heap];simpa using this
  exact⟨he,⟨keep hB b1,keep hB b2,keep hB b3,keep hB b4⟩,(bl2 hw).trans (hB.mono (bl2 hw).size),by rw [hB.block _ (Array.getElem?_eq_some_iff.1 hr).1];exact hr⟩
 have HFb:Hid (∀w',Lk (((w.alloc (.cells #[.string t,.int .i64 m] 382)).alloc (.cells #[.int .i64 0,.int .i64 0] 395)).alloc (.cells #[.int .i64 0,.int .i64 0] 395)) w'→Calls prog 354 #[.pointer (some ⟨ab,0,none⟩),.agg #[.string t,.int .i64 m]] w' fun e w2=>e=.returned (.tuple #[.agg #[.int .i64 u,.int .i64 n],.bool bd])∧(w2.heap[w.heap.size+2]? =some (.cells #[.int .i64 0,.int .i64 0] 395 (0,0))∧(w2.cell? ⟨w.heap.size+2,0,none⟩=some (.int .i64 0)∧w2.cell? ⟨w.heap.size+2,1,none⟩=some (.int .i64 0)∧(∀o,w2.frozen? ⟨w.heap.size+2,o,none⟩=false)))∧(w2.cell? ⟨xb,3,none⟩=some (.pointer (some ⟨ab,0,none⟩))∧w2.cell? ⟨xb,2,none⟩=some (.map (some mm))∧w2.cell? ⟨w.heap.size,0,none⟩=some (.string t)∧w2.cell? ⟨w.heap.size,1,none⟩=some (.int .i64 m))∧Below w.heap.size w w2∧w2.heap[w.heap.size+1]? =some (.cells #[.int .i64 0,.int .i64 0] 395 (0,0))):=fun w' hw=>by
  have hb3:Below w.heap.size w w':=(((qab w (.cells #[.string t,.int .i64 m] 382)).alloc (by simp) (.cells #[.int .i64 0,.int .i64 0] 395)).alloc (by simp;omega) (.cells #[.int .i64 0,.int .i64 0] 395)).trans ((bl0 hw).mono (by simp;omega))
  refine Calls.mono (hF w' hb3) ?_
  rintro e w2 ⟨he,hB⟩
  obtain⟨b1,b2,b3,b4⟩:=base (w':=(w.alloc (.cells #[.string t,.int .i64 m] 382)).alloc (.cells #[.int .i64 0,.int .i64 0] 395)) ⟨rfl,rfl,rfl,rfl⟩
  have up:∀{b k:Nat} {v:Value},((w.alloc (.cells #[.string t,.int .i64 m] 382)).alloc (.cells #[.int .i64 0,.int .i64 0] 395)).cell? ⟨b,k,none⟩=some v→w'.cell? ⟨b,k,none⟩=some v:=fun {b k v} h=>by
   have:=qaj (o:=.cells #[.int .i64 0,.int .i64 0] 395) h
   simp only [World.cell?,hw.heap]at this⊢;exact this
  have hq:w'.heap[w.heap.size+2]? =some (.cells #[.int .i64 0,.int .i64 0] 395 (0,0)):=by
   have:=heap_alloc_new ((w.alloc (.cells #[.string t,.int .i64 m] 382)).alloc (.cells #[.int .i64 0,.int .i64 0] 395)) (.cells #[.int .i64 0,.int .i64 0] 395)
   rw [hw.heap];simpa using this
  have hq2:w2.heap[w.heap.size+2]? =some (.cells #[.int .i64 0,.int .i64 0] 395 (0,0)):=by rw [hB.block _ (Array.getElem?_eq_some_iff.1 hq).1];exact hq
  exact⟨he,⟨hq2,by simp only [World.cell?,hq2];rfl,by simp only [World.cell?,hq2];rfl,fun o=>by simp [World.frozen?,hq2]⟩,⟨keep hB (up b1),keep hB (up b2),keep hB (up b3),keep hB (up b4)⟩,hb3.trans (hB.mono hb3.size),by
   have hr:w'.heap[w.heap.size+1]? =some (.cells #[.int .i64 0,.int .i64 0] 395 (0,0)):=by
    have:=heap_alloc_new (w.alloc (.cells #[.string t,.int .i64 m] 382)) (.cells #[.int .i64 0,.int .i64 0] 395)
    rw [hw.heap,Below.heap_alloc _ _ _ (by simp)];simpa using this
   rw [hB.block _ (Array.getElem?_eq_some_iff.1 hr).1];exact hr⟩
 obtain⟨k3,k2,k0,k1⟩:=base (w':=(w.alloc (.cells #[.string t,.int .i64 m] 382)).alloc (.cells #[.int .i64 0,.int .i64 0] 395)) ⟨rfl,rfl,rfl,rfl⟩
 clear hF hL hK base keep
 go_enter func318,ntmps318
 go_wp2_with (fail)
 go_region_held3 (fun w'=>w'.cell? ⟨xb,3,none⟩=some (.pointer (some ⟨ab,0,none⟩))∧w'.cell? ⟨w.heap.size,0,none⟩=some (.string t)∧w'.cell? ⟨w.heap.size,1,none⟩=some (.int .i64 m)) (first|(exact⟨HC1.out.1.1,HC1.out.1.2.2.1,HC1.out.1.2.2.2⟩)|(exact⟨k3,k0,k1⟩)|(exact⟨qaj k3,qaj k0,qaj k1⟩)|(exact⟨qaj HC1.out.1.1,qaj HC1.out.1.2.2.1,qaj HC1.out.1.2.2.2⟩)|(exact⟨qap (qap HC1.out.1.1 (by simp;omega)) (by simp;omega),qap (qap HC1.out.1.2.2.1 (by simp;omega)) (by simp;omega),qap (qap HC1.out.1.2.2.2 (by simp;omega)) (by simp;omega)⟩)|go_keep|(trace_state;fail))
  (first
   |(go_at_call 354;refine(HFa.out _ (by exact⟨rfl,rfl,rfl,rfl⟩)).mono ?_;rintro e w1 ⟨rfl,hc⟩;have HC1:=hZ hc;clear hc)
   |(go_at_call 354;refine(HFb.out _ (by exact⟨rfl,rfl,rfl,rfl⟩)).mono ?_;rintro e w1 ⟨rfl,⟨hq,d0,d1,fz⟩,hc⟩;have HQ1:=hZ hq;have HC1:=hZ hc;clear hc hq))
 ·obtain⟨⟨p3,p2,p0,p1⟩,hbel,hres⟩:=HC1.out
  have hbel:Below w.heap.size w (w1.alloc (.cells #[.int .i64 u,.int .i64 n] 395)):=hbel.trans ((qab _ _).mono hbel.size)
  have p2:=qaj (o:=.cells #[.int .i64 u,.int .i64 n] 395) p2
  have p0:=qaj (o:=.cells #[.int .i64 u,.int .i64 n] 395) p0
  have hres:(w1.alloc (.cells #[.int .i64 u,.int .i64 n] 395)).heap[w.heap.size+1]? =some (.cells #[.int .i64 0,.int .i64 0] 395 (0,0)):=by rw [Below.heap_alloc _ _ _ (Array.getElem?_eq_some_iff.1 hres).1];exact hres
  have hq:=heap_alloc_new w1 (.cells #[.int .i64 u,.int .i64 n] 395)
  have hqs:w.heap.size+1<w1.heap.size:=by have:=(Array.getElem?_eq_some_iff.1 HC1.out.2.2).1;exact this
  generalize w1.heap.size=q at hq hqs⊢
  generalize w1.alloc (.cells #[.int .i64 u,.int .i64 n] 395)=W at hbel p2 p0 hres hq⊢
  have q0:W.cell? ⟨q,0,none⟩=some (.int .i64 u):=by simp only [World.cell?,hq];rfl
  have q1:W.cell? ⟨q,1,none⟩=some (.int .i64 n):=by simp only [World.cell?,hq];rfl
  clear HC1 p3 p1 hq HFa HFb
  have lz:=(Array.getElem?_eq_some_iff.1 hres).1
  have hlk:=HL.out W.drew (hbel.trans ((bl0 (by exact⟨rfl,rfl,rfl,rfl⟩)).mono hbel.size))
  have HBel:=hZ hbel
  have HRes:=hZ hres
  clear hbel hres
  have r0:W.cell? ⟨w.heap.size+1,0,none⟩=some (.int .i64 0):=by simp only [World.cell?,HRes.out];rfl
  have r1:W.cell? ⟨w.heap.size+1,1,none⟩=some (.int .i64 0):=by simp only [World.cell?,HRes.out];rfl
  have rf0:W.frozen? ⟨w.heap.size+1,0,none⟩=false:=by simp [World.frozen?,HRes.out]
  have rf1:W.frozen? ⟨w.heap.size+1,1,none⟩=false:=by simp [World.frozen?,HRes.out]
  go_wp2_with (fail)
  go_region
  cases bd
  ·go_wp2_with (go_at_call 320;refine(HK.out _).mono ?_;rintro e w2 ⟨rfl,hw2⟩;refine Hid.out ?_)
   have hw3:Lk W w2:=⟨hw2.1,hw2.2,hw2.3,hw2.4⟩
   have HRes2:Hid (w2.heap[w.heap.size+1]? =some (.cells #[.int .i64 0,.int .i64 0] 395 (0,0))):=by
    have h:=HRes.out;rw [←hw3.heap]at h;exact h
   have HBel2:Hid (Below w.heap.size w w2):=HBel.out.trans ((bl0 hw3).mono HBel.out.size)
   have q0:w2.cell? ⟨q,0,none⟩=some (.int .i64 u):=by simp only [World.cell?,hw3.heap];exact q0
   have q1:w2.cell? ⟨q,1,none⟩=some (.int .i64 n):=by simp only [World.cell?,hw3.heap];exact q1
   have r0:w2.cell? ⟨w.heap.size+1,0,none⟩=some (.int .i64 0):=by simp only [World.cell?,HRes2.out];rfl
   have r1:w2.cell? ⟨w.heap.size+1,1,none⟩=some (.int .i64 0):=by simp only [World.cell?,HRes2.out];rfl
   have rf0:w2.frozen? ⟨w.heap.size+1,0,none⟩=false:=by simp [World.frozen?,HRes2.out]
   have rf1:w2.frozen? ⟨w.heap.size+1,1,none⟩=false:=by simp [World.frozen?,HRes2.out]
   clear hw2 hw3 HRes HBel
   refine hZ ?_
   cases kw
   ·cases mac
    ·have g:=qc5 (u:=.int .i64 u) (v:=.int .i64 n) HRes2.out
     have g0:((w2.setCell ⟨w.heap.size+1,0,none⟩ (.int .i64 u)).setCell ⟨w.heap.size+1,1,none⟩ (.int .i64 n)).cell? ⟨w.heap.size+1,0,none⟩=some (.int .i64 u):=by simp only [World.cell?,g];rfl
     have g1:((w2.setCell ⟨w.heap.size+1,0,none⟩ (.int .i64 u)).setCell ⟨w.heap.size+1,1,none⟩ (.int .i64 n)).cell? ⟨w.heap.size+1,1,none⟩=some (.int .i64 n):=by simp only [World.cell?,g];rfl
     clear g
     go_wp2_with (fail)
     go_region
     go_wp2
     refine bodyPost_ret (v:=.tuple #[.int .i64 3,.agg #[.int .i64 u,.int .i64 n]]) (by simp [results,results318,go_sem, *]) rfl ?_
     exact⟨rfl,qaz (b:=w.heap.size+1) (u:=.int .i64 u) (v:=.int .i64 n) (by omega) HBel2.out (by exact⟨rfl,rfl,rfl,rfl⟩)⟩
    ·have g:=qc5 (u:=.int .i64 u) (v:=.int .i64 n) HRes2.out
     have g0:((w2.setCell ⟨w.heap.size+1,0,none⟩ (.int .i64 u)).setCell ⟨w.heap.size+1,1,none⟩ (.int .i64 n)).cell? ⟨w.heap.size+1,0,none⟩=some (.int .i64 u):=by simp only [World.cell?,g];rfl
     have g1:((w2.setCell ⟨w.heap.size+1,0,none⟩ (.int .i64 u)).setCell ⟨w.heap.size+1,1,none⟩ (.int .i64 n)).cell? ⟨w.heap.size+1,1,none⟩=some (.int .i64 n):=by simp only [World.cell?,g];rfl
     clear g
     go_wp2_with (fail)
     go_region
     go_wp2
     refine bodyPost_ret (v:=.tuple #[.int .i64 2,.agg #[.int .i64 u,.int .i64 n]]) (by simp [results,results318,go_sem, *]) rfl ?_
     exact⟨rfl,qaz (b:=w.heap.size+1) (u:=.int .i64 u) (v:=.int .i64 n) (by omega) HBel2.out (by exact⟨rfl,rfl,rfl,rfl⟩)⟩
   ·have g:=qc5 (u:=.int .i64 u) (v:=.int .i64 n) HRes2.out
    have g0:((w2.setCell ⟨w.heap.size+1,0,none⟩ (.int .i64 u)).setCell ⟨w.heap.size+1,1,none⟩ (.int .i64 n)).cell? ⟨w.heap.size+1,0,none⟩=some (.int .i64 u):=by simp only [World.cell?,g];rfl
    have g1:((w2.setCell ⟨w.heap.size+1,0,none⟩ (.int .i64 u)).setCell ⟨w.heap.size+1,1,none⟩ (.int .i64 n)).cell? ⟨w.heap.size+1,1,none⟩=some (.int .i64 n):=by simp only [World.cell?,g];rfl
    clear g
    go_wp2_with (fail)
    go_region
    go_wp2
    refine bodyPost_ret (v:=.tuple #[.int .i64 1,.agg #[.int .i64 u,.int .i64 n]]) (by simp [results,results318,go_sem, *]) rfl ?_
    exact⟨rfl,qaz (b:=w.heap.size+1) (u:=.int .i64 u) (v:=.int .i64 n) (by omega) HBel2.out (by exact⟨rfl,rfl,rfl,rfl⟩)⟩
  ·have g:=qc5 (u:=.int .i64 u) (v:=.int .i64 n) HRes.out
   have g0:((W.setCell ⟨w.heap.size+1,0,none⟩ (.int .i64 u)).setCell ⟨w.heap.size+1,1,none⟩ (.int .i64 n)).cell? ⟨w.heap.size+1,0,none⟩=some (.int .i64 u):=by simp only [World.cell?,g];rfl
   have g1:((W.setCell ⟨w.heap.size+1,0,none⟩ (.int .i64 u)).setCell ⟨w.heap.size+1,1,none⟩ (.int .i64 n)).cell? ⟨w.heap.size+1,1,none⟩=some (.int .i64 n):=by simp only [World.cell?,g];rfl
   clear g
   go_wp2_with (fail)
   go_region
   go_wp2
   refine bodyPost_ret (v:=.tuple #[.int .i64 0,.agg #[.int .i64 u,.int .i64 n]]) (by simp [results,results318,go_sem, *]) rfl ?_
   exact⟨rfl,qaz (b:=w.heap.size+1) (u:=.int .i64 u) (v:=.int .i64 n) (by omega) HBel.out (by exact⟨rfl,rfl,rfl,rfl⟩)⟩
 ·obtain⟨⟨p3,p2,p0,p1⟩,hbel,hres⟩:=HC1.out
  have hbel:Below w.heap.size w ((w1.setCell ⟨w.heap.size+2,0,none⟩ (.int .i64 u)).setCell ⟨w.heap.size+2,1,none⟩ (.int .i64 n)):=qaz (by omega) hbel ⟨rfl,rfl,rfl,rfl⟩
  have p2:((w1.setCell ⟨w.heap.size+2,0,none⟩ (.int .i64 u)).setCell ⟨w.heap.size+2,1,none⟩ (.int .i64 n)).cell? ⟨xb,2,none⟩=some (.map (some mm)):=qap (qap p2 (by simp;omega)) (by simp;omega)
  have p0:((w1.setCell ⟨w.heap.size+2,0,none⟩ (.int .i64 u)).setCell ⟨w.heap.size+2,1,none⟩ (.int .i64 n)).cell? ⟨w.heap.size,0,none⟩=some (.string t):=qap (qap p0 (by simp)) (by simp)
  have hres:((w1.setCell ⟨w.heap.size+2,0,none⟩ (.int .i64 u)).setCell ⟨w.heap.size+2,1,none⟩ (.int .i64 n)).heap[w.heap.size+1]? =some (.cells #[.int .i64 0,.int .i64 0] 395 (0,0)):=by
   rw [qaa (a:=⟨w.heap.size+2,1,none⟩) _ (by show w.heap.size+1≠w.heap.size+2;omega),qaa (a:=⟨w.heap.size+2,0,none⟩) _ (by show w.heap.size+1≠w.heap.size+2;omega)];exact hres
  have hq:=qc5 (u:=.int .i64 u) (v:=.int .i64 n) HQ1.out
  have hqs:w.heap.size+1<w.heap.size+1+1:=by omega
  have e2:w.heap.size+2=w.heap.size+1+1:=rfl
  rw [e2]at hq p2 p0 hres hbel
  generalize hqq:w.heap.size+1+1=q at hq hqs p2 p0 hres hbel⊢
  generalize (w1.setCell ⟨q,0,none⟩ (.int .i64 u)).setCell ⟨q,1,none⟩ (.int .i64 n)=W at hbel p2 p0 hres hq⊢
  have q0:W.cell? ⟨q,0,none⟩=some (.int .i64 u):=by simp only [World.cell?,hq];rfl
  have q1:W.cell? ⟨q,1,none⟩=some (.int .i64 n):=by simp only [World.cell?,hq];rfl
  clear HC1 HQ1 p3 p1 hq HFa HFb d0 d1 fz hqq e2
  have lz:=(Array.getElem?_eq_some_iff.1 hres).1
  have hlk:=HL.out W.drew (hbel.trans ((bl0 (by exact⟨rfl,rfl,rfl,rfl⟩)).mono hbel.size))
  have HBel:=hZ hbel
  have HRes:=hZ hres
  clear hbel hres
  have r0:W.cell? ⟨w.heap.size+1,0,none⟩=some (.int .i64 0):=by simp only [World.cell?,HRes.out];rfl
  have r1:W.cell? ⟨w.heap.size+1,1,none⟩=some (.int .i64 0):=by simp only [World.cell?,HRes.out];rfl
  have rf0:W.frozen? ⟨w.heap.size+1,0,none⟩=false:=by simp [World.frozen?,HRes.out]
  have rf1:W.frozen? ⟨w.heap.size+1,1,none⟩=false:=by simp [World.frozen?,HRes.out]
  go_wp2_with (fail)
  go_region
  cases bd
  ·go_wp2_with (go_at_call 320;refine(HK.out _).mono ?_;rintro e w2 ⟨rfl,hw2⟩;refine Hid.out ?_)
   have hw3:Lk W w2:=⟨hw2.1,hw2.2,hw2.3,hw2.4⟩
   have HRes2:Hid (w2.heap[w.heap.size+1]? =some (.cells #[.int .i64 0,.int .i64 0] 395 (0,0))):=by
    have h:=HRes.out;rw [←hw3.heap]at h;exact h
   have HBel2:Hid (Below w.heap.size w w2):=HBel.out.trans ((bl0 hw3).mono HBel.out.size)
   have q0:w2.cell? ⟨q,0,none⟩=some (.int .i64 u):=by simp only [World.cell?,hw3.heap];exact q0
   have q1:w2.cell? ⟨q,1,none⟩=some (.int .i64 n):=by simp only [World.cell?,hw3.heap];exact q1
   have r0:w2.cell? ⟨w.heap.size+1,0,none⟩=some (.int .i64 0):=by simp only [World.cell?,HRes2.out];rfl
   have r1:w2.cell? ⟨w.heap.size+1,1,none⟩=some (.int .i64 0):=by simp only [World.cell?,HRes2.out];rfl
   have rf0:w2.frozen? ⟨w.heap.size+1,0,none⟩=false:=by simp [World.frozen?,HRes2.out]
   have rf1:w2.frozen? ⟨w.heap.size+1,1,none⟩=false:=by simp [World.frozen?,HRes2.out]
   clear hw2 hw3 HRes HBel
   refine hZ ?_
   cases kw
   ·cases mac
    ·have g:=qc5 (u:=.int .i64 u) (v:=.int .i64 n) HRes2.out
     have g0:((w2.setCell ⟨w.heap.size+1,0,none⟩ (.int .i64 u)).setCell ⟨w.heap.size+1,1,none⟩ (.int .i64 n)).cell? ⟨w.heap.size+1,0,none⟩=some (.int .i64 u):=by simp only [World.cell?,g];rfl
     have g1:((w2.setCell ⟨w.heap.size+1,0,none⟩ (.int .i64 u)).setCell ⟨w.heap.size+1,1,none⟩ (.int .i64 n)).cell? ⟨w.heap.size+1,1,none⟩=some (.int .i64 n):=by simp only [World.cell?,g];rfl
     clear g
     go_wp2_with (fail)
     go_region
     go_wp2
     refine bodyPost_ret (v:=.tuple #[.int .i64 3,.agg #[.int .i64 u,.int .i64 n]]) (by simp [results,results318,go_sem, *]) rfl ?_
     exact⟨rfl,qaz (b:=w.heap.size+1) (u:=.int .i64 u) (v:=.int .i64 n) (by omega) HBel2.out (by exact⟨rfl,rfl,rfl,rfl⟩)⟩
    ·have g:=qc5 (u:=.int .i64 u) (v:=.int .i64 n) HRes2.out
     have g0:((w2.setCell ⟨w.heap.size+1,0,none⟩ (.int .i64 u)).setCell ⟨w.heap.size+1,1,none⟩ (.int .i64 n)).cell? ⟨w.heap.size+1,0,none⟩=some (.int .i64 u):=by simp only [World.cell?,g];rfl
     have g1:((w2.setCell ⟨w.heap.size+1,0,none⟩ (.int .i64 u)).setCell ⟨w.heap.size+1,1,none⟩ (.int .i64 n)).cell? ⟨w.heap.size+1,1,none⟩=some (.int .i64 n):=by simp only [World.cell?,g];rfl
     clear g
     go_wp2_with (fail)
     go_region
     go_wp2
     refine bodyPost_ret (v:=.tuple #[.int .i64 2,.agg #[.int .i64 u,.int .i64 n]]) (by simp [results,results318,go_sem, *]) rfl ?_
     exact⟨rfl,qaz (b:=w.heap.size+1) (u:=.int .i64 u) (v:=.int .i64 n) (by omega) HBel2.out (by exact⟨rfl,rfl,rfl,rfl⟩)⟩
   ·have g:=qc5 (u:=.int .i64 u) (v:=.int .i64 n) HRes2.out
    have g0:((w2.setCell ⟨w.heap.size+1,0,none⟩ (.int .i64 u)).setCell ⟨w.heap.size+1,1,none⟩ (.int .i64 n)).cell? ⟨w.heap.size+1,0,none⟩=some (.int .i64 u):=by simp only [World.cell?,g];rfl
    have g1:((w2.setCell ⟨w.heap.size+1,0,none⟩ (.int .i64 u)).setCell ⟨w.heap.size+1,1,none⟩ (.int .i64 n)).cell? ⟨w.heap.size+1,1,none⟩=some (.int .i64 n):=by simp only [World.cell?,g];rfl
    clear g
    go_wp2_with (fail)
    go_region
    go_wp2
    refine bodyPost_ret (v:=.tuple #[.int .i64 1,.agg #[.int .i64 u,.int .i64 n]]) (by simp [results,results318,go_sem, *]) rfl ?_
    exact⟨rfl,qaz (b:=w.heap.size+1) (u:=.int .i64 u) (v:=.int .i64 n) (by omega) HBel2.out (by exact⟨rfl,rfl,rfl,rfl⟩)⟩
  ·have g:=qc5 (u:=.int .i64 u) (v:=.int .i64 n) HRes.out
   have g0:((W.setCell ⟨w.heap.size+1,0,none⟩ (.int .i64 u)).setCell ⟨w.heap.size+1,1,none⟩ (.int .i64 n)).cell? ⟨w.heap.size+1,0,none⟩=some (.int .i64 u):=by simp only [World.cell?,g];rfl
   have g1:((W.setCell ⟨w.heap.size+1,0,none⟩ (.int .i64 u)).setCell ⟨w.heap.size+1,1,none⟩ (.int .i64 n)).cell? ⟨w.heap.size+1,1,none⟩=some (.int .i64 n):=by simp only [World.cell?,g];rfl
   clear g
   go_wp2_with (fail)
   go_region
   go_wp2
   refine bodyPost_ret (v:=.tuple #[.int .i64 0,.agg #[.int .i64 u,.int .i64 n]]) (by simp [results,results318,go_sem, *]) rfl ?_
   exact⟨rfl,qaz (b:=w.heap.size+1) (u:=.int .i64 u) (v:=.int .i64 n) (by omega) HBel.out (by exact⟨rfl,rfl,rfl,rfl⟩)⟩
end
end Go.Proofs.YtldaocpojcfljaaGreatDoor
