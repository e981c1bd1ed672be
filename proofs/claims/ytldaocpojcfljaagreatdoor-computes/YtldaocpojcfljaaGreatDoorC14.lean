import Derived.Test.YtldaocpojcfljaaGreatDoorC13
set_option maxRecDepth 100000
set_option maxHeartbeats 4000000
namespace Go.Proofs.YtldaocpojcfljaaGreatDoor
open Tryz hiding parts
open Go.RowKit Go.Shelf
section
open Sc
theorem qb8 (t:ByteArray) (l:List UInt8):(t==(⟨l.toArray⟩:ByteArray))=decide (t.data.toList=l):=by
 obtain⟨⟨d⟩⟩:=t
 show(Array.mk d==l.toArray)=decide (d=l)
 by_cases h:d=l <;> simp [h]
theorem chk9 (e:Bool) (n:Nat) (t:ByteArray) (w:World):(Instr.checkKey e (n+1) 9 (.string t)).run prog w=.ok () w:=by
 simp [Instr.checkKey,run_underlying underlying9]
theorem qjv (e:Bool) (t:ByteArray) (w:World):(Instr.checkKey e 10000 9 (.string t)).run prog w=.ok () w:=chk9 e 9999 t w
def lookB (s:List UInt8):List (List UInt8×Nat)→Option Nat
 | []=>none
 |(t,b)::r=>if s=t then some b else lookB s r
theorem qgl (t:ByteArray):∀(es:List MapEntry) (B:List (List UInt8×Nat)) (i:Nat),es.map (fun e=>(e.key,e.val))=B.map (fun p=>(Value.string ⟨p.1.toArray⟩,Value.pointer (some ⟨p.2,0,none⟩)))→
  ∃r,Instr.findNow .string (.string t) es i=some r∧r.map (·.2)=(lookB t.data.toList B).map fun b=>Value.pointer (some ⟨b,0,none⟩)
 | [],[],i,_=>⟨none,rfl,rfl⟩
 | [],_::_,i,h=>by simp at h
 |_::_,[],i,h=>by simp at h
 |e::es,(s,b)::B,i,h=>by
  simp only [List.map_cons,List.cons.injEq,Prod.mk.injEq]at h
  obtain⟨⟨h1,h2⟩,h3⟩:=h
  simp only [Instr.findNow,h1,Instr.sameNow,qb8,lookB]
  by_cases hs:t.data.toList=s
  ·simp [hs,h2]
  ·simp only [hs,decide_false]
   obtain⟨r,e1,e2⟩:=qgl t es B (i+1) h3
   exact⟨r,e1,by simpa [hs]using e2⟩
theorem qa5 (mp:Nat) (es:Array MapEntry) (clock:Nat) (w:World) (hw:w.heap[mp]? =some (.map es clock)):(getObj mp).run prog w=.ok (.map es clock) w:=by
 unfold getObj;simp [Sem.run,hw]
theorem qdl (mp:Nat) (es:Array MapEntry) (clock:Nat) (B:List (List UInt8×Nat)) (t:ByteArray) (w:World) (hw:w.heap[mp]? =some (.map es clock)) (hB:es.toList.map (fun e=>(e.key,e.val))=B.map (fun p=>(Value.string ⟨p.1.toArray⟩,Value.pointer (some ⟨p.2,0,none⟩)))):
  (Instr.lookup 114 (.map (some mp)) (.string t) false).run prog w=.ok (.pointer ((lookB t.data.toList B).map fun b=>⟨b,0,none⟩)) w:=by
 obtain⟨r,e1,e2⟩:=qgl t es.toList B 0 hB
 have hg:=qa5 mp es clock w hw
 cases r with
 |none=>
  cases hl:lookB t.data.toList B with
  |none=>simp [Instr.lookup,run_underlying underlying114,go_sem,hg,qjv,Instr.findKey,run_underlying underlying9,e1]
  |some b=>rw [hl]at e2;simp at e2
 |some p=>
  cases hl:lookB t.data.toList B with
  |none=>rw [hl]at e2;simp at e2
  |some b=>rw [hl]at e2;obtain⟨i,v⟩:=p;simp at e2;subst e2;simp [Instr.lookup,run_underlying underlying114,go_sem,hg,qjv,Instr.findKey,run_underlying underlying9,e1]
theorem qcb (mp b:Nat) (es:Array MapEntry) (clock:Nat) (B:List (List UInt8×Nat)) (t:ByteArray) (w:World) (hw:w.heap[mp]? =some (.map es clock)) (hB:es.toList.map (fun e=>(e.key,e.val))=B.map (fun p=>(Value.string ⟨p.1.toArray⟩,Value.pointer (some ⟨p.2,0,none⟩)))) (hl:lookB t.data.toList B=none):
  (Instr.mapUpdate 114 (.map (some mp)) (.string t) (.pointer (some ⟨b,0,none⟩))).run prog w=.ok () {w with heap:=w.heap.setIfInBounds mp (.map (es.push ⟨.string t,.pointer (some ⟨b,0,none⟩),clock⟩) (clock+1))}:=by
 obtain⟨r,e1,e2⟩:=qgl t es.toList B 0 hB
 rw [hl]at e2
 have hr:r=none:=by simpa using e2
 subst hr
 have hg:=qa5 mp es clock w hw
 simp [Instr.mapUpdate,run_underlying underlying114,go_sem,hg,qjv,Instr.findKey,run_underlying underlying9,e1]
 unfold setObj;simp [Sem.run,hw]
theorem qep {s:List UInt8}:∀{B:List (List UInt8×Nat)} {b:Nat},lookB s B=some b→(s,b)∈B
 | [],_,h=>by simp [lookB]at h
 |(t,c)::r,b,h=>by
  by_cases hs:s=t
  ·subst hs;simp [lookB]at h;subst h;simp
  ·simp [lookB,hs]at h;exact List.mem_cons_of_mem _ (qep h)
theorem qcr {s:List UInt8}:∀{B:List (List UInt8×Nat)},lookB s B=none→∀b,(s,b)∉B
 | [],_,b,h=>by simp at h
 |(t,c)::r,hn,b,h=>by
  by_cases hs:s=t
  ·subst hs;simp [lookB]at hn
  ·simp [lookB,hs]at hn
   rcases List.mem_cons.1 h with h|h
   ·cases h;exact hs rfl
   ·exact qcr hn b h
def Gh.glob (G:Gh) (s:Bs) (b:Nat):Gh:={G with B:=G.B++[(s,b)]}
theorem Gh.le_glob (G:Gh) (s:Bs) (b:Nat):G.le (G.glob s b):=⟨_root_.id,_root_.id,_root_.id,fun h=>List.mem_append_left _ h,rfl,rfl,rfl,rfl,rfl,rfl⟩
theorem Gh.up_glob (G:Gh) (s:Bs) (b:Nat):G.up (G.glob s b):=⟨G.le_glob s b,rfl,rfl⟩
theorem Inv.newGlob {G:Gh} {S:Sub} {m:Mc} {w w':World} {s:Bs} {b:Nat} (i:Inv G S m w) (hs:∀c,(s,c)∉G.B) (hb:w.heap[b]? =some (.cells #[.nilIface] 318 (0,0))) (hbm:b∉G.mut) (hbi:G.I b=Option.none) (hbf:¬G.F b)
  (hk:∀c,c≠G.mp→w'.heap[c]? =w.heap[c]?) (hz:w'.heap.size=w.heap.size) (ho:w'.os=w.os∧w'.tape=w.tape∧w'.output=w.output)
  (hm:∃es clock,w'.heap[G.mp]? =some (.map es clock)∧es.toList.map (fun e=>(e.key,e.val))=(G.B++[(s,b)]).map (fun p=>(Value.string ⟨p.1.toArray⟩,bp p.2))):Inv (G.glob s b) S m w':=by
 have h:=G.le_glob s b
 have hmut:∀c,c∈(G.glob s b).mut↔c∈G.mut∨c=b:=fun c=>by
  simp only [Gh.mut,Gh.glob,Gh.rows,List.mem_cons,List.mem_append,List.map_append,List.map_cons,List.map_nil]
  constructor
  ·rintro(h|h|h|h|(h|h|h)|h)
   ·exact .inl (.inl h)
   ·exact .inl (.inr (.inl h))
   ·exact .inl (.inr (.inr (.inl h)))
   ·exact .inl (.inr (.inr (.inr (.inl h))))
   ·exact .inl (.inr (.inr (.inr (.inr (.inl h)))))
   ·exact .inr h
   ·simp at h
   ·exact .inl (.inr (.inr (.inr (.inr (.inr h)))))
  ·rintro((h|h|h|h|h|h)|h)
   ·exact .inl h
   ·exact .inr (.inl h)
   ·exact .inr (.inr (.inl h))
   ·exact .inr (.inr (.inr (.inl h)))
   ·exact .inr (.inr (.inr (.inr (.inl (.inl h)))))
   ·exact .inr (.inr (.inr (.inr (.inr h))))
   ·exact .inr (.inr (.inr (.inr (.inl (.inr (.inl h))))))
 have hbl:b<w.heap.size:=(Array.getElem?_eq_some_iff.1 hb).1
 have hnd:(G.glob s b).mut.Nodup:=by
  have e:(G.glob s b).mut=G.mb::G.sb::G.cb::G.mp::(G.B.map (·.2)++([b]++G.rows)):=by simp [Gh.mut,Gh.glob,Gh.rows]
  have p:((G.B.map (·.2)++([b]++G.rows))).Perm (b::(G.B.map (·.2)++G.rows)):=by
   rw [←List.append_assoc]
   exact(List.perm_append_comm (l₁:=G.B.map (·.2)) (l₂:=[b])).append_right G.rows
  rw [e]
  have q:(G.mb::G.sb::G.cb::G.mp::(G.B.map (·.2)++([b]++G.rows))).Perm (b::G.mut):=by
   refine((((p.cons G.mp).cons G.cb).cons G.sb).cons G.mb).trans ?_
   refine((((List.Perm.swap _ _ _).cons _).cons _).cons _).trans ?_
   refine(((List.Perm.swap _ _ _).cons _).cons _).trans ?_
   refine((List.Perm.swap _ _ _).cons _).trans ?_
   exact List.Perm.swap _ _ _
  exact q.nodup_iff.2 (List.nodup_cons.2 ⟨hbm,i.nd⟩)
 have keep:∀{c:Nat} {o:Obj},G.I c=some o→w'.heap[c]? =w.heap[c]?:=fun {c o} hc=>hk c fun e=>by rw [e,i.mi i.m4]at hc;cases hc
 refine⟨fun hc=>by rw [keep hc];exact i.imm hc,hnd,?_,?_,i.st.keep (hk _ (Ne.symm i.mp_sb)),i.ce.keep (hk _ (Ne.symm i.mp_cb)),i.sl,i.cl,?_,hm,?_,?_,?_,?_,i.el,i.jl,i.jn,i.ji,?_,?_,?_,?_⟩
 ·intro c hc
  rcases (hmut c).1 hc with hc|rfl
  ·exact i.mi hc
  ·exact hbi
 ·intro c hc
  rw [hz]
  rcases (hmut c).1 hc with hc|rfl
  ·exact i.ml hc
  ·exact hbl
 ·obtain⟨gv,wp,a,c⟩:=i.ma
  exact⟨gv,wp,by show w'.heap[G.mb]? =_;rw [hk _ (Ne.symm i.mp_mb)];exact a,c.mono h⟩
 ·intro t c htc
  rcases List.mem_append.1 htc with htc|htc
  ·obtain⟨x,h1,h2⟩:=i.gl htc
   exact⟨x,by rw [hk c (i.lateB htc).2.2.2];exact h1,h2.mono h⟩
  ·simp at htc
   obtain⟨rfl,rfl⟩:=htc
   refine⟨.nilIface,by rw [hk c fun e=>hbm (e▸i.m4)];exact hb,?_⟩
   rcases hl:lookup t m.glob with _|v
   ·rfl
   ·obtain⟨d,hd⟩:=i.gd hl
    exact absurd hd (hs d)
 ·intro t v ht
  obtain⟨c,hc⟩:=i.gd ht
  exact⟨c,List.mem_append_left _ hc⟩
 ·show((G.B++[(s,b)]).map (·.1)).Nodup
  rw [List.map_append,List.nodup_append]
  refine⟨i.gk,by simp,fun x hx y hy e=>?_⟩
  simp at hy
  subst hy;subst e
  obtain⟨⟨p1,p2⟩,hp,rfl⟩:=List.mem_map.1 hx
  exact hs p2 hp
 ·intro j vs e hj
  obtain⟨fb,sv,pf,h1,h2,h3,h4⟩:=i.en hj
  exact⟨fb,sv,pf,h1,h2,h3.mono h,h4.mono h fun g o n cap hsv=>hk g (i.lateE (by rw [h1,hsv])).2.2.2⟩
 ·show w'.os=G.W.os∧w'.tape=G.W.tape∧w'.output=G.W.output
  rw [ho.1,ho.2.1,ho.2.2];exact i.fo
 ·intro c hc
  obtain⟨h1,h2⟩:=i.ff hc
  rw [hk c (fun e=>i.fm i.m4 (e▸hc)),hz]
  exact⟨h1,h2⟩
 ·intro c hc
  rcases (hmut c).1 hc with hc|rfl
  ·exact i.fm hc
  ·exact hbf
 ·exact i.fi
end
section
open Sc
theorem Inv.mb2 {G:Gh} {S:Sub} {m:Mc} {w:World} (i:Inv G S m w):w.cell? ⟨G.mb,2,Option.none⟩=some (.map (some G.mp)):=by obtain⟨gv,wp,h,_⟩:=i.ma;simp [World.cell?,h]
theorem qmj (G:Gh) (S:Sub) (m:Mc) (w:World) (t:ByteArray) (i:Inv G S m w):
  Calls prog 227 #[bp G.mb,.string t] w fun e w'=>∃H b,e=.returned (bp b)∧G.up H∧Inv H S m w'∧(t.data.toList,b)∈H.B∧H.J=G.J∧H.E=G.E∧(∀c,c≠G.mp→c<w.heap.size→w'.heap[c]? =w.heap[c]?)∧w.heap.size≤w'.heap.size:=by
 obtain⟨es,clock,hmp,hB⟩:=i.mp
 have c2:=i.mb2
 have hl:=qdl G.mp es clock G.B t w hmp hB
 cases hb:lookB t.data.toList G.B with
 |some b=>
  rw [hb]at hl
  have hl:(Instr.lookup 114 (.map (some G.mp)) (.string t) false).run prog w=.ok (.pointer (some ⟨b,0,none⟩)) w:=hl
  have HI:=hZ i
  have HB:=hZ (qep hb)
  clear i hmp hB hb
  go_enter func227,ntmps227
  go_wp2
  go_ret
  exact⟨G,b,rfl,Gh.up.refl G,HI.out,HB.out,rfl,rfl,fun _ _ _=>rfl,Nat.le_refl _⟩
 |none=>
  rw [hb]at hl
  have hl:(Instr.lookup 114 (.map (some G.mp)) (.string t) false).run prog w=.ok (.pointer none) w:=hl
  have hmpl:G.mp<w.heap.size:=(Array.getElem?_eq_some_iff.1 hmp).1
  have hu:=qcb G.mp w.heap.size es clock G.B t (w.alloc (.cells #[.nilIface] 318)) (by rw [Below.heap_alloc _ _ _ hmpl];exact hmp) hB hb
  have k2:(w.alloc (.cells #[.nilIface] 318)).cell? ⟨G.mb,2,none⟩=some (.map (some G.mp)):=(qad (qac c2) _).trans c2
  have HI:=hZ i
  have HB:=hZ hB
  have HN:=hZ (qcr hb)
  have HM:=hZ hmp
  clear i hB hb hmp
  go_enter func227,ntmps227
  go_wp2
  go_ret
  have i1:=HI.out.below ((Below.refl _ _).alloc (Nat.le_refl _) (.cells #[.nilIface] 318))
  refine⟨G.glob t.data.toList w.heap.size,w.heap.size,rfl,G.up_glob _ _,i1.newGlob HN.out (heap_alloc_new _ _) (fun h=>by have:=HI.out.ml h;omega) (HI.out.fresh (Nat.le_refl _)) (fun h=>by have:=(HI.out.ff h).2;omega) ?_ (by simp) ⟨rfl,rfl,rfl⟩ ⟨es.push ⟨.string t,bp w.heap.size,clock⟩,clock+1,?_,?_⟩,?_,rfl,rfl,?_,by simp⟩
  ·intro c hc
   simp [Ne.symm hc]
  ·simp [Array.getElem?_setIfInBounds];omega
  ·simp [HB.out]
  ·exact List.mem_append_right _ (by simp)
  ·intro c hc hcl
   simp [Ne.symm hc,Below.heap_alloc _ _ _ hcl]
theorem Inv.gfz {G:Gh} {S:Sub} {m:Mc} {w:World} (i:Inv G S m w) {s:Bs} {b:Nat} (h:(s,b)∈G.B):w.frozen? ⟨b,0,Option.none⟩=false:=by obtain⟨x,h1,_⟩:=i.gl h;simp [World.frozen?,h1]
theorem Inv.gcell {G:Gh} {S:Sub} {m:Mc} {w:World} (i:Inv G S m w) {s:Bs} {b:Nat} (h:(s,b)∈G.B):∃x,w.cell? ⟨b,0,Option.none⟩=some x∧(x=.nilIface∨∃t y,x=.iface t y):=by
 obtain⟨x,h1,h2⟩:=i.gl h
 refine⟨x,by simp [World.cell?,h1],?_⟩
 rcases hl:lookup s m.glob with _|v
 ·rw [hl]at h2;exact .inl h2
 ·rw [hl]at h2;exact .inr (VRep.form h2)
theorem qmv (G:Gh) (S:Sub) (m:Mc) (w:World) (t:ByteArray) (v:Vl) (x:Value) (i:Inv G S m w) (hv:VRep G v x):
  Calls prog 139 #[bp G.mb,.string t,x] w fun e w'=>∃H,e=.returned (.tuple #[])∧G.up H∧Inv H S {m with glob:=put t.data.toList v m.glob} w'∧H.J=G.J∧H.E=G.E∧w.heap.size≤w'.heap.size:=by
 obtain⟨ty,y,rfl⟩:=hv.form
 have HG:=hZ (qmj G S m w t i)
 have HV:=hZ hv
 clear i hv
 go_enter func139,ntmps139
 go_wp2_with (go_at_call 227;refine HG.out.mono ?_;rintro e w2 ⟨H,b,rfl,hH⟩;refine Hid.out ?_)
 obtain⟨hu,hi,hm,hJ,hE,hk,hz⟩:=hH
 obtain⟨z,hz1,hz2⟩:=hi.gcell hm
 have hz3:=hi.gfz hm
 have HH:=hZ (And.intro hu (And.intro hi (And.intro hm (And.intro hJ (And.intro hE hz)))))
 clear hu hi hm hJ hE hk hz
 rcases hz2 with rfl|⟨t',y',rfl⟩
 all_goals
  refine hZ ?_
  go_wp2
  go_end0
  obtain⟨hu,hi,hm,hJ,hE,hz⟩:=HH.out
  exact⟨H,rfl,hu,hi.setGlob hm (HV.out.mono hu.le),hJ,hE,by rw [qaf];exact hz⟩
theorem qmw (G:Gh) (S:Sub) (m:Mc) (w:World) (t:ByteArray) (v:Vl) (x:Value) (q1 q2:Nat) (pf:Option Addr) (i:Inv G S m w) (hv:VRep G v x) (h1:G.mbox q1) (h2:G.I q2=some (.cells #[.string t] 9 (0,0))):
  Calls prog 322 #[.pointer pf,x,bp q1,bp q2] w fun e w'=>∃H,e=.returned (.tuple #[])∧G.up H∧Inv H S {m with glob:=put t.data.toList v m.glob} w'∧H.J=G.J∧H.E=G.E∧w.heap.size≤w'.heap.size:=by
 obtain⟨ty,y,rfl⟩:=hv.form
 have HD:=hZ (qmv G S m w t v (.iface ty y) i hv)
 have c1:w.cell? ⟨q1,0,none⟩=some (.pointer (some ⟨G.mb,0,none⟩)):=by rw [i.cell h1];rfl
 have c2:w.cell? ⟨q2,0,none⟩=some (.string t):=by rw [i.cell h2];rfl
 clear i hv h1 h2
 go_enter func322,ntmps322
 go_wp2_with (go_at_call 139;refine HD.out.mono ?_;rintro e w2 ⟨H,rfl,hH⟩)
 go_end0
 exact⟨H,rfl,hH⟩
end
section
open Sc
section
variable {S:Sub} {n:Nat} {G:Gh} {m:Mc} {w:World} {v:Vl} {x:Value} {k:List Fr}
theorem ret_set (ihv:SimV S n) (i:Inv G S m w) (hv:VRep G v x) {sh:List Nat} {t:Tg} {env:Option Nat} {q1 q2 q3:Nat} {xs u:Value} {pf:Option Addr}
  (h1:G.I q1=some (.cells #[xs] 413 (0,0))) (h2:G.I q2=some (.cells #[.pointer pf] 378 (0,0))) (h3:G.I q3=some (.cells #[u] 295 (0,0)))
  (ht:TRep G sh t xs) (hn:NRep G env pf) (hs:Sh G sh pf) (hk:FRep G k u) (he:Ct.ended (go S (n+1) (.ret v (.set t env::k)) m).1=true):
  Calls prog 356 (#[x]++#[bp q1,bp q2,bp q3]) w (Post G S (n+1) (.ret v (.set t env::k)) m):=by
 obtain⟨ku,cu,rfl,egu⟩:=hk.isF
 obtain⟨ks,cs,rfl,egs⟩:=ht.isF
 refine set11 q1 q2 q3 ks cs x pf ku cu w _ egu egs Post.ends (by rw [i.cell h1];rfl) (by rw [i.cell h2];rfl) ?_
 cases ht with
 |loc u j N q hu hj hb hq=>
  obtain⟨jx,fb,sv,vs,e',k1,k2,k3,k4,k5,k6,k7⟩:=i.find u hn hs hu
  rcases k6 with⟨rfl,_⟩|⟨g,o,cap,arr,rfl,hne,hg,hx⟩
  ·simp at k7;omega
  obtain⟨N',rfl⟩:∃N',N=N'+1:=⟨N-1,by omega⟩
  obtain⟨y,hy1,hy2⟩:=hx j (vs[j]'(by omega)) (List.getElem?_eq_getElem (by omega))
  have hnx:Sc.next S (.ret v (.set (.loc u j) env::k)) m=(.ret .none k,{m with envs:=m.envs.modify jx fun(l,u)=>(l.set j v,u)}):=by
   simp only [Sc.next,setLocal,k1]
  rw [qan hnx rfl]at he
  rw [k7]at k3
  have hsl:=qnu q u j fb g o (N'+1) cap x y pf w hv.form (by rw [i.cell hq];rfl) (by rw [i.cell hq];rfl) k4 (by rw [k5,k7]) hj hb.1 hb.2 (by simp [World.cell?,hg,hy1]) hy2.form (by simp [World.frozen?,hg])
  refine Calls.mono hsl ?_
  rintro e w' ⟨rfl,w1,hw1,rfl⟩
  left
  have i2:=(i.below hw1).setEnv (a:=j) k3 k2 k7 hj hv
  exact⟨rfl,by rw [i2.cell h3];rfl,Calls.mono (ihv G _ _ .none k _ ku cu i2 .none hk he) fun e w p=>Post.step hnx rfl (Gh.up.refl G) p⟩
 |glo s q b hq hb=>
  obtain⟨z,hz1,hz2⟩:=i.gl hb
  have hc:w.cell? ⟨b,0,none⟩=some z:=by simp [World.cell?,hz1]
  rcases hl:lookup s m.glob with _|v0
  ·rw [hl]at hz2
   obtain rfl:z=.nilIface:=hz2
   have hnx:Sc.next S (.ret v (.set (.glo s) env::k)) m=(.stop 5,m):=by simp [Sc.next,hl]
   refine Calls.mono (qe7 q b x pf w (by rw [i.cell hq];rfl) hc) ?_
   rintro e w' ⟨rfl,o,rfl⟩
   exact .inr ⟨⟨_,rfl⟩,Post.step hnx rfl (Gh.up.refl G) (Post.now (.stop 5 _ _ (i.cntB (Nat.le_refl _) ((Below.refl _ _).alloc (Nat.le_refl _) _))))⟩
  ·rw [hl]at hz2
   obtain⟨t0,y0,rfl⟩:=VRep.form hz2
   have hnx:Sc.next S (.ret v (.set (.glo s) env::k)) m=(.ret .none k,{m with glob:=put s v m.glob}):=by simp [Sc.next,hl]
   rw [qan hnx rfl]at he
   refine Calls.mono (qf5 q b t0 y0 x pf w (by rw [i.cell hq];rfl) hc (i.gfz hb) hv.form) ?_
   rintro e w' ⟨rfl,rfl⟩
   left
   have i2:=i.setGlob hb hv
   exact⟨rfl,by rw [i2.cell h3];rfl,Calls.mono (ihv G _ _ .none k _ ku cu i2 .none hk he) fun e w p=>Post.step hnx rfl (Gh.up.refl G) p⟩
 |def' s q3' q4 t h4 h5 hts=>
  subst hts
  have hnx:Sc.next S (.ret v (.set (.def' t.data.toList) env::k)) m=(.ret .none k,{m with glob:=put t.data.toList v m.glob}):=rfl
  rw [qan hnx rfl]at he
  refine Calls.mono (qmw G S m w t v x q3' q4 pf i hv h4 h5) ?_
  rintro e w' ⟨H,rfl,hu,hi,_,_,_⟩
  left
  exact⟨rfl,by rw [hi.cell (hu.le.I h3)];rfl,Calls.mono (ihv H _ _ .none k _ ku cu hi .none (hk.mono hu.le) he) fun e w p=>Post.step hnx rfl hu p⟩
theorem sim_lam (ihv:SimV S n) {w1:World} {sh:List Nat} {env:Option Nat} {ku:Nat} {cu:Array Value} {pf:Option Addr} (i:Inv G S {m with steps:=m.steps+1} w1) (hn:NRep G env pf) (hs:Sh G sh pf) (hk:FRep G k (.func (.func ku) #[] cu)) (hst:(m.steps:Int)<S.fuel) {N:Nat} {r:Bool} {l:List Ex} {q1 q2 q3:Nat} {xb xl:Value}
  (h1:G.mbox q1) (h2:G.I q2=some (.cells #[xl] 241 (0,0))) (h3:G.I q3=some (.cells #[xb] 440 (0,0))) (hl:SRep G (N::sh) l xl) (hb:BRep G N r xb) (he:Ct.ended (go S (n+1) (.ev (.lam N r l) env k) m).1=true):
  Calls prog 382 (#[.pointer pf,.func (.func ku) #[] cu]++#[bp q1,bp q2,bp q3]) w1 (Post G S (n+1) (.ev (.lam N r l) env k) m):=by
 have c1:w1.cell? ⟨q1,0,none⟩=some (.pointer (some ⟨G.mb,0,none⟩)):=by rw [i.cell h1];rfl
 by_cases hce:(m.cells:Int)<S.quota
 ·have hnx:Sc.next S (.ev (.lam N r l) env k) m=(.ret (.lam m.ids N r l env) k,{m with steps:=m.steps+1,cells:=m.cells+1,ids:=m.ids+1}):=by
   simp [Sc.next,Sc.step,hst,Sc.cell,hce]
  rw [qan hnx rfl]at he
  obtain⟨kk,ck,hku,egu⟩:=hk.isF
  cases hku
  have ic:=i.cells (m.cells+1) (by push_cast;omega)
  have ic:Inv G S {m with steps:=m.steps+1,cells:=m.cells+1} (w1.setCell ⟨G.cb,0,none⟩ (.int .i64 ((m.cells:Int)+1))):=by simpa using ic
  refine qmb q1 q2 q3 G.mb G.cb ku m.cells S.quota pf cu w1 _ egu Post.ends c1 i.mb1 i.ce (by omega) (by omega) (by have:=i.cl.2;omega) ?_
  intro w' hw
  have ia:=ic.alloc (.cells #[.pointer pf] 378)
  have xa:=ic.x1 (.cells #[.pointer pf] 378)
  have io:=ia.newObj (.cells #[.func (.func 383) #[] #[bp q2,bp q3,bp w1.heap.size]] 300)
  have xo:=ia.ext_newObj (.cells #[.func (.func 383) #[] #[bp q2,bp q3,bp w1.heap.size]] 300)
  have ao:=ia.at_newObj (.cells #[.func (.func 383) #[] #[bp q2,bp q3,bp w1.heap.size]] 300)
  have hz:((w1.setCell ⟨G.cb,0,none⟩ (.int .i64 ((m.cells:Int)+1))).alloc (.cells #[.pointer pf] 378)).heap.size=w1.heap.size+1:=by simp
  have hz0:(w1.setCell ⟨G.cb,0,none⟩ (.int .i64 ((m.cells:Int)+1))).heap.size=w1.heap.size:=qaf
  rw [hz]at io xo ao
  rw [hz0]at io xo ao xa
  have L:=xa.le.trans xo.le
  refine Calls.mono (ihv _ _ w' (.lam m.ids N r l env) k _ ku cu (Inv.lk hw io) (.proc _ _ (.lam sh m.ids N r l env (w1.heap.size+1) q2 q3 w1.heap.size xl xb pf ao (Gh.add_at _ _ _) (L.I h2) (L.I h3) (xo.le.I (Gh.add_at _ _ _)) (hl.mono L) (hb.mono L) (hn.mono L) (hs.mono L))) (hk.mono L) he) (fun e w p=>Post.step hnx rfl (xa.up.trans xo.up) p)
 ·have hnx:Sc.next S (.ev (.lam N r l) env k) m=(.stop 11,{m with steps:=m.steps+1}):=by
   simp [Sc.next,Sc.step,hst,Sc.cell,hce]
  have hm:(m.cells:Int)=S.quota:=by have:(m.cells:Int)≤S.quota:=i.cl.1;omega
  have hM:Mt G.cb m.cells S.quota 11 w1:=i.ce
  rw [←hm]at hM
  refine Calls.mono (qji q1 q2 q3 G.mb G.cb ku m.cells pf cu w1 c1 i.mb1 hM (by omega) (by have:=i.cl.2;omega)) ?_
  rintro e w' ⟨rfl,hb⟩
  have i1:=i.cells m.cells (by omega)
  exact Post.step hnx rfl (Gh.up.refl G) (Post.now (.stop 11 _ _ (i1.cntB (by rw [qaf];exact Nat.le_refl _) hb)))
end
end
section
open Sc
theorem Inv.loose {G:Gh} {S:Sub} {m:Mc} {w:World} (i:Inv G S m w) {b o:Nat} {v:Value} (hI:G.I b=Option.none) (hm:b∉G.mut) (hf:¬G.F b):Inv G S m (w.setCell ⟨b,o,Option.none⟩ v):=by
 have k:∀c,c≠b→(w.setCell ⟨b,o,Option.none⟩ v).heap[c]? =w.heap[c]?:=fun c hc=>qaa (a:=⟨b,o,Option.none⟩) c hc
 have km:∀{c:Nat},c∈G.mut→(w.setCell ⟨b,o,Option.none⟩ v).heap[c]? =w.heap[c]?:=fun {c} hc=>k c fun e=>hm (e▸hc)
 refine⟨fun {c x} hc=>by rw [k c fun e=>by rw [e,hI]at hc;cases hc];exact i.imm hc,i.nd,i.mi,fun h=>by rw [qaf];exact i.ml h,i.st.keep (km i.m2),i.ce.keep (km i.m3),i.sl,i.cl,by rw [km i.m1];exact i.ma,by rw [km i.m4];exact i.mp,fun {s c} h=>by rw [km (i.m5 h)];exact i.gl h,i.gd,i.gk,?_,i.el,i.jl,i.jn,i.ji,i.fo,fun {c} hc=>by rw [k c fun e=>hf (e▸hc),qaf];exact i.ff hc,i.fm,i.fi⟩
 intro j vs e hj
 obtain⟨fb,sv,pf,h1,h2,h3,h4⟩:=i.en hj
 exact⟨fb,sv,pf,h1,h2,h3,h4.mono (Gh.le.refl _) fun g o n cap hsv=>km (i.m6 (by rw [h1,hsv]))⟩
theorem qdk:∀(l:List Dt) (m:Mc) (d:Dt),ofDts m (l++[d])=((ofDts m l).1++[(ofDt (ofDts m l).2 d).1],(ofDt (ofDts m l).2 d).2)
 | [],m,d=>by simp [ofDts]
 |a::r,m,d=>by
  simp only [List.cons_append,ofDts,qdk r,List.cons_append]
theorem VsRep.snoc {G:Gh} {vs:List Vl} {xs:List Value} {v:Vl} {x:Value} (h:VsRep G vs xs) (hv:VRep G v x):VsRep G (vs++[v]) (xs++[x]):=by
 refine⟨by simp [h.1],fun i u y hu hy=>?_⟩
 rcases Nat.lt_or_ge i vs.length with hi|hi
 ·rw [List.getElem?_append_left hi]at hu
  rw [List.getElem?_append_left (by rw [←h.1];exact hi)]at hy
  exact h.2 i u y hu hy
 ·rw [List.getElem?_append_right hi]at hu
  rw [List.getElem?_append_right (by rw [←h.1];exact hi),←h.1]at hy
  rcases hz:i-vs.length with _|z
  ·rw [hz]at hu hy;simp at hu hy;subst hu;subst hy;exact hv
  ·rw [hz]at hu;simp at hu
theorem DsRep.at {G:Gh}:∀{l:List Dt} {es:List Dl},DsRep G l es→l.length=es.length∧∀(i:Nat) (d:Dt) (e:Dl),l[i]? =some d→es[i]? =some e→DRep G d e
 |_,_,.nil=>⟨rfl,fun i d e h=>by simp at h⟩
 |_,_,.cons d r e es h hs=>by
  obtain⟨h1,h2⟩:=DsRep.at hs
  refine⟨by simp [h1],fun i d' e' hd he=>?_⟩
  cases i with
  |zero=>simp at hd he;subst hd;subst he;exact h
  |succ i=>exact h2 i d' e' (by simpa using hd) (by simpa using he)
def OfSaid (N:Nat):Prop:=∀(G:Gh) (S:Sub) (m:Mc) (w:World) (d:Dt) (e:Dl),SizeOf.sizeOf d<N→Inv G S m w→DRep G d e→
 Calls prog 60 #[.agg e.cells] w fun e' w'=>∃H x,e'=.returned x∧G.ext H w.heap.size∧Inv H S (ofDt m d).2 w'∧VRep H (ofDt m d).1 x∧Below w.heap.size w w'
theorem of_atom (G:Gh) (S:Sub) (m:Mc) (w:World) (d:Dt) (e:Dl) (i:Inv G S m w) (h:DRep G d e) (hk:e.k≠4):
  Calls prog 60 #[.agg e.cells] w fun e' w'=>∃H x,e'=.returned x∧G.ext H w.heap.size∧Inv H S (ofDt m d).2 w'∧VRep H (ofDt m d).1 x∧Below w.heap.size w w':=by
 obtain⟨xk,xn,xtr,xtx,xm,xa,xlen,xcap⟩:=e
 have HI:=hZ i
 clear i
 cases h with
 |num e h h0 h1=>
  obtain rfl:xk=0:=h
  go_enter func60,ntmps60
  go_wp2
  go_ret
  exact⟨G,_,rfl,Gh.ext.refl _ _,HI.out.below ((Below.refl _ _).alloc (Nat.le_refl _) _),.num _ h0 h1,(Below.refl _ _).alloc (Nat.le_refl _) _⟩
 |bool e h=>
  obtain rfl:xk=1:=h
  go_enter func60,ntmps60
  go_wp2
  go_ret
  exact⟨G,_,rfl,Gh.ext.refl _ _,HI.out.below ((Below.refl _ _).alloc (Nat.le_refl _) _),.bool _,(Below.refl _ _).alloc (Nat.le_refl _) _⟩
 |str e h hz=>
  obtain rfl:xk=2:=h
  go_enter func60,ntmps60
  go_wp2
  go_ret
  exact⟨G,_,rfl,Gh.ext.refl _ _,HI.out.below ((Below.refl _ _).alloc (Nat.le_refl _) _),.str _ hz,(Below.refl _ _).alloc (Nat.le_refl _) _⟩
 |sym e h hz=>
  obtain rfl:xk=3:=h
  go_enter func60,ntmps60
  go_wp2
  go_ret
  exact⟨G,_,rfl,Gh.ext.refl _ _,HI.out.below ((Below.refl _ _).alloc (Nat.le_refl _) _),.sym _ hz,(Below.refl _ _).alloc (Nat.le_refl _) _⟩
 |nil e h=>exact absurd h hk
 |list e h=>exact absurd h hk
end
section
open Sc
theorem qj8 {l:List Dt} {d:Dt} (h:d∈l):SizeOf.sizeOf d<SizeOf.sizeOf (Dt.list l):=by
 have:=List.sizeOf_lt_of_mem h
 simp;omega
theorem qol (N:Nat) (ih:OfSaid N) (G:Gh) (S:Sub) (m:Mc) (w:World) (l:List Dt) (xk xn:Int) (xtr:Bool) (xtx:ByteArray) (xm:Int) (xa:Option Addr) (xlen xcap:Nat) (i:Inv G S m w) (hk:xk=4) (hz:SizeOf.sizeOf (Dt.list l)≤N)
  (es:List Dl) (hl:l.length=es.length) (hd:∀(i:Nat) (d:Dt) (e:Dl),l[i]? =some d→es[i]? =some e→DRep G d e) (hlen:xlen=es.length)
  (hrow:∀(i j:Nat) (x:Dl),es[i]? =some x→j<6→∃g o,xa=some ⟨g,o,none⟩∧g<w.heap.size∧w.cell? ⟨g,o+i*6+j,none⟩=x.cells[j]?) (h100:xlen≤1000000):
  Calls prog 60 #[.agg (Dl.cells ⟨xk,xn,xtr,xtx,xm,xa,xlen,xcap⟩)] w fun e' w'=>∃H x,e'=.returned x∧G.ext H w.heap.size∧Inv H S (ofDt m (.list l)).2 w'∧VRep H (ofDt m (.list l)).1 x∧Below w.heap.size w w':=by
 subst hk
 have HI:=hZ i
 have HD:=hZ hd
 have HL:=hZ hl
 have HLen:=hZ hlen
 have HRow:=hZ hrow
 have HIh:=hZ ih
 have HZ:=hZ hz
 have hmk:∀w:World,(Instr.makeSlice 184 (.int .i64 (xlen:Int)) (.int .i64 (xlen:Int))).run prog w=.ok (.slice (some ⟨w.heap.size,0,none⟩) xlen xlen) (w.alloc (.cells (madeCells #[.nilIface] xlen) 116)):=
  fun w=>run_make_row' 184 116 .nilIface 16 underlying184 qet rfl .i64 .i64 xlen (by omega) (by omega) w
 clear i hd hl hlen hrow ih hz
 go_enter func60,ntmps60
 go_wp2
 go_loopw [35] (fun c wr=>∃(k:Nat) (H:Gh) (xs:List Value) (cs:Array Value),k≤xlen∧c=.int .i64 (k:Int)∧G.ext H w.heap.size∧Inv H S (ofDts m (l.take k)).2 wr∧VsRep H (ofDts m (l.take k)).1 xs∧
   wr.heap[w.heap.size+1]? =some (.cells cs 116 (0,0))∧cs.size=xlen∧xs.length=k∧(∀j,j<k→cs[j]? =xs[j]?)∧H.I (w.heap.size+1)=none∧Below w.heap.size w wr) (fun c _=>xlen-(intOf c).toNat)
 case atStart=>
  have i1:=(HI.out.below ((Below.refl _ _).alloc (Nat.le_refl _) (.cells #[.int .i64 4,.int .i64 xn,.bool xtr,.string xtx,.int .i64 xm,.slice xa xlen xcap] 134)))
  have i2:=i1.below ((Below.refl _ _).alloc (Nat.le_refl _) (.cells (madeCells #[.nilIface] xlen) 116))
  refine⟨0,G,[],madeCells #[.nilIface] xlen,Nat.zero_le _,rfl,Gh.ext.refl _ _,by simpa [ofDts]using i2,by simp [ofDts];exact⟨rfl,fun j v x h=>by simp at h⟩,?_,size_madeCells _ _,rfl,fun j h=>by omega,HI.out.fresh (by omega),((Below.refl _ _).alloc (Nat.le_refl _) _).alloc (by simp) _⟩
  have:=heap_alloc_new (w:=w.alloc (.cells #[.int .i64 4,.int .i64 xn,.bool xtr,.string xtx,.int .i64 xm,.slice xa xlen xcap] 134)) (o:=.cells (madeCells #[.nilIface] xlen) 116)
  simpa using this
 case round=>
  obtain⟨k,H,xs,cs,hk,rfl,hx,hi,hv,hcs,hsz,hxl,hcx,hfr,hbl⟩:=hrel
  have HX:=hZ hx
  have HI':=hZ hi
  have HV:=hZ hv
  have HCs:=hZ hcs
  have HSz:=hZ hsz
  have HXl:=hZ hxl
  have HCx:=hZ hcx
  have HFr:=hZ hfr
  have HB:=hZ hbl
  clear hx hi hv hcs hsz hxl hcx hfr hbl
  have hGr:w.heap.size+1<wr.heap.size:=(Array.getElem?_eq_some_iff.1 HCs.out).1
  by_cases hlt:k<xlen
  ·have hke:k<es.length:=by rw [←HLen.out];exact hlt
   have hkl:k<l.length:=by rw [HL.out];exact hke
   obtain⟨⟨yk,yn,ytr,ytx,ym,ya,ylen,ycap⟩,hy⟩:∃y,y=es[k]:=⟨_,rfl⟩
   have hey:es[k]? =some ⟨yk,yn,ytr,ytx,ym,ya,ylen,ycap⟩:=by rw [hy];exact List.getElem?_eq_getElem hke
   obtain⟨g,o,rfl,hgw,c00⟩:=HRow.out k 0 _ hey (by omega)
   have cell:∀j,j<6→wr.cell? ⟨g,o+k*6+j,none⟩=(Dl.cells ⟨yk,yn,ytr,ytx,ym,ya,ylen,ycap⟩)[j]?:=fun j hj=>by
    obtain⟨g',o',e1,e2,e3⟩:=HRow.out k j _ hey hj
    cases e1
    exact(HB.out.cell (p:=⟨g,o+k*6+j,none⟩) hgw).trans e3
   have c0:wr.cell? ⟨g,o+k*6,none⟩=some (.int .i64 yk):=cell 0 (by omega)
   have c1:wr.cell? ⟨g,o+k*6+1,none⟩=some (.int .i64 yn):=cell 1 (by omega)
   have c2:wr.cell? ⟨g,o+k*6+2,none⟩=some (.bool ytr):=cell 2 (by omega)
   have c3:wr.cell? ⟨g,o+k*6+3,none⟩=some (.string ytx):=cell 3 (by omega)
   have c4:wr.cell? ⟨g,o+k*6+4,none⟩=some (.int .i64 ym):=cell 4 (by omega)
   have c5:wr.cell? ⟨g,o+k*6+5,none⟩=some (.slice ya ylen ycap):=cell 5 (by omega)
   have hdr:=HD.out k l[k] _ (List.getElem?_eq_getElem hkl) hey
   have HRep:Hid (∀w',Below wr.heap.size wr w'→Calls prog 60 #[.agg (Dl.cells ⟨yk,yn,ytr,ytx,ym,ya,ylen,ycap⟩)] w' fun e' w''=>∃H' x,e'=.returned x∧H.ext H' wr.heap.size∧Inv H' S (ofDt (ofDts m (l.take k)).2 l[k]).2 w''∧VRep H' (ofDt (ofDts m (l.take k)).2 l[k]).1 x∧Below wr.heap.size wr w''):=fun w' hb=>by
    refine Calls.mono (HIh.out H S _ w' l[k] _ (Nat.lt_of_lt_of_le (qj8 (List.getElem_mem hkl)) HZ.out) (HI'.out.below hb) (hdr.mono HX.out.le)) ?_
    rintro e' w'' ⟨H',x,r1,r2,r3,r4,r5⟩
    exact⟨H',x,r1,⟨r2.le,r2.E,r2.B,fun hb'=>r2.I (Nat.lt_of_lt_of_le hb' hb.size),r2.W,r2.F⟩,r3,r4,hb.trans (r5.mono hb.size)⟩
   clear cell hy hdr c00
   have hkl':(k:Int)<(xlen:Int):=by omega
   go_wp2_with (go_at_call 60;refine(HRep.out _ ((Below.refl _ _).alloc (Nat.le_refl _) _)).mono ?_;rintro e w2 ⟨H',v,rfl,hH'⟩;refine Hid.out ?_)
   obtain⟨r2,r3,r4,r5⟩:=hH'
   have hG2:w2.heap[w.heap.size+1]? =some (.cells cs 116 (0,0)):=by rw [r5.block _ hGr];exact HCs.out
   have hkc:k<cs.size:=by rw [HSz.out];exact hlt
   have cG:w2.cell? ⟨w.heap.size+1,k,none⟩=some cs[k]:=by simp [World.cell?,hG2,hkc]
   have fG:w2.frozen? ⟨w.heap.size+1,k,none⟩=false:=by simp [World.frozen?,hG2]
   obtain⟨tp,pp,rfl⟩:=r4.form
   have HR:=hZ (And.intro r2 (And.intro r3 (And.intro r4 (And.intro r5 hG2))))
   clear r2 r3 r4 r5 hG2
   refine hZ ?_
   go_wp2
   go_roundw
   case rel=>
    obtain⟨r2,r3,r4,r5,hG2⟩:=HR.out
    have ht:l.take (k+1)=l.take k++[l[k]]:=by rw [List.take_add_one,List.getElem?_eq_getElem hkl];rfl
    have hIb:H'.I (w.heap.size+1)=none:=by rw [r2.I hGr];exact HFr.out
    have hmb:w.heap.size+1∉H'.mut:=by
     rw [r2.mut,HX.out.mut]
     intro hmem
     have:=HI.out.ml hmem
     omega
    have hfb:¬H'.F (w.heap.size+1):=by
     rw [r2.F,HX.out.F]
     intro hf
     have:=(HI.out.ff hf).2
     omega
    refine⟨k+1,H',xs++[.iface tp pp],cs.setIfInBounds k (.iface tp pp),by omega,by go_num,HX.out.trans r2 HB.out.size,?_,?_,?_,by simpa using HSz.out,by simp [HXl.out],?_,hIb,?_⟩
    ·rw [ht,qdk];exact r3.loose hIb hmb hfb
    ·rw [ht,qdk];exact(HV.out.mono r2.le).snoc r4
    ·simp [World.setCell,Array.getElem?_modify,hG2]
    ·intro j hj
     by_cases hjk:j=k
     ·subst hjk
      rw [List.getElem?_append_right (by rw [HXl.out];exact Nat.le_refl _),HXl.out]
      simp [hkc]
     ·rw [Array.getElem?_setIfInBounds_ne (by omega),List.getElem?_append_left (by rw [HXl.out];omega)]
      exact HCx.out j (by omega)
    ·have hb2:Below w.heap.size w w2:=HB.out.trans (r5.mono HB.out.size)
     exact⟨hb2.os,hb2.tape,hb2.output,by rw [qaf];exact hb2.size,fun c hc=>by rw [qaa (a:=⟨w.heap.size+1,k,none⟩) c (by show c≠w.heap.size+1;omega)];exact hb2.block c hc⟩
   case measure=>simp [intOf];omega
  ·have hke:k=xlen:=by omega
   have HK:=hZ hke
   clear hke
   have htk:l.take k=l:=by rw [HK.out,HLen.out,←HL.out];simp
   have hv':=HV.out
   have hi':=HI'.out
   rw [htk]at hv' hi'
   have hxl':xs.length=xlen:=by rw [HXl.out,HK.out]
   have hL:=qc9 H S (ofDts m l).2 wr (some ⟨w.heap.size+1,0,none⟩) xlen (ofDts m l).1 xs .nil (.iface 186 (.agg #[])) hi' hv' .nil (.inr ⟨w.heap.size+1,0,rfl,fun j hj=>by
     have:=HCx.out j (by rw [HXl.out]at hj;exact hj)
     simp only [World.cell?,HCs.out,Nat.zero_add]
     rw [List.getElem?_eq_getElem hj]at this
     simpa using this⟩) (by omega)
   rw [hxl']at hL
   have HL2:=hZ hL
   clear hL hxl' hv' hi' htk
   go_wp2_with (go_at_call 91;refine HL2.out.mono ?_;rintro e w2 ⟨H',x,rfl,hH'⟩)
   go_ret
   obtain⟨r2,r3,r4,r5⟩:=hH'
   exact⟨H',x,rfl,HX.out.trans r2 HB.out.size,r3,r4,HB.out.trans (r5.mono HB.out.size)⟩
theorem qiz:∀N,OfSaid N
 |0=>fun G S m w d e h=>by omega
 |N+1=>fun G S m w d e hz i h=>by
  by_cases hk:e.k=4
  ·obtain⟨xk,xn,xtr,xtx,xm,xa,xlen,xcap⟩:=e
   cases h with
   |num e h=>simp only at h hk;omega
   |bool e h=>simp only at h hk;omega
   |str e h _=>simp only at h hk;omega
   |sym e h _=>simp only at h hk;omega
   |nil e h hl=>
    obtain rfl:xlen=0:=hl
    exact qol N (qiz N) G S m w [] xk xn xtr xtx xm xa 0 xcap i hk (by omega) [] rfl (fun i d e h=>by simp at h) rfl (fun i j x h=>by simp at h) (by omega)
   |list e h l es g o arr hl hc hm ha hg hr hs=>
    obtain rfl:xa=some ⟨g,o,none⟩:=ha
    obtain⟨hs1,hs2⟩:=hs.at
    exact qol N (qiz N) G S m w l xk xn xtr xtx xm _ xlen xcap i hk (by omega) es hs1 hs2 hl (fun i' j x hx hj=>⟨g,o,rfl,(Array.getElem?_eq_some_iff.1 (i.imm hg)).1,by rw [i.cell hg];exact hr i' j x hx hj⟩) (by have h1:xlen≤xcap:=hc;have h2:xlen≤30000:=hm;omega)
  ·exact of_atom G S m w d e i h hk
theorem of_inv (G:Gh) (S:Sub) (m:Mc) (w:World) (d:Dt) (e:Dl) (i:Inv G S m w) (h:DRep G d e):
  Calls prog 60 #[.agg e.cells] w fun e' w'=>∃H x,e'=.returned x∧G.ext H w.heap.size∧Inv H S (ofDt m d).2 w'∧VRep H (ofDt m d).1 x∧Below w.heap.size w w':=qiz _ G S m w d e (Nat.lt_succ_self _) i h
end
end Go.Proofs.YtldaocpojcfljaaGreatDoor
