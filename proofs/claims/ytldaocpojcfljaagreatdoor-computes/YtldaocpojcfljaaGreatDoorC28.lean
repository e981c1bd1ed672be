import Derived.Test.YtldaocpojcfljaaGreatDoorC27
set_option maxRecDepth 100000
set_option maxHeartbeats 4000000
namespace Go.Proofs.YtldaocpojcfljaaGreatDoor
open Tryz hiding parts
open Go.RowKit Go.Shelf
section
open Sc
theorem qlk (g o cap k:Nat) (c:Array Value) (w:World) (h0:w.cell? ⟨g,o,none⟩=some (.func (.func k) #[] c)):
  Calls prog 361 #[.slice (some ⟨g,o,none⟩) 1 cap] w fun e w'=>e=.returned (.func (.func k) #[] c)∧Lk w w':=by
 go_enter func361,ntmps361
 go_wp2
 go_ret
 exact⟨rfl,rfl,rfl,rfl,rfl⟩
theorem qaj {w:World} {b k:Nat} {x:Value} {o:Obj} (h:w.cell? ⟨b,k,none⟩=some x):(w.alloc o).cell? ⟨b,k,none⟩=some x:=(qad (qac h) _).trans h
theorem qap {w:World} {p a:Addr} {x v:Value} (h:w.cell? p=some x) (hn:p.block≠a.block):(w.setCell a v).cell? p=some x:=(qag hn).trans h
theorem bl0 {w w':World} (h:Lk w w'):Below w.heap.size w w':=⟨h.os,h.tape,h.output,by rw [h.heap];exact Nat.le_refl _,fun k _=>by rw [h.heap]⟩
theorem bl1 {w w':World} {o:Obj} (h:Lk (w.alloc o) w'):Below w.heap.size w w':=(qab w o).trans ((bl0 h).mono (by simp))
theorem bl2 {w w':World} {o o2:Obj} (h:Lk ((w.alloc o).alloc o2) w'):Below w.heap.size w w':=((qab w o).alloc (by simp) o2).trans ((bl0 h).mono (by simp;omega))
def SeqT (x y:Value) (w w' w1:World) (Q:Ending→World→Prop):Prop:=∀b3 b4 w3,b3≠b4→w.heap.size≤b3→w.heap.size≤b4→(b3<w'.heap.size∨w1.heap.size≤b3)→(b4<w'.heap.size∨w1.heap.size≤b4)→(∀j,j<w1.heap.size→j≠b3→j≠b4→w3.heap[j]? =w1.heap[j]?)→w3.heap[b3]? =some (.cells #[x] 241 (0,0))→w3.heap[b4]? =some (.cells #[y] 241 (0,0))→w1.heap.size≤w3.heap.size→w3.os=w1.os→w3.tape=w1.tape→w3.output=w1.output→Q (.returned (.func (.func 384) #[] #[.pointer (some ⟨b3,0,none⟩),.pointer (some ⟨b4,0,none⟩)])) w3
def SeqR (g o k:Nat) (c:Array Value) (w:World) (Q:Ending→World→Prop) (w':World) (e:Ending) (w1:World):Prop:=∃k2 c2,e=.returned (.func (.func k2) #[] c2)∧w1.cell? ⟨g,o,none⟩=some (.func (.func k) #[] c)∧Below w'.heap.size w' w1∧w.heap.size≤w'.heap.size∧SeqT (.func (.func k) #[] c) (.func (.func k2) #[] c2) w w' w1 Q
theorem SeqR.below {g o k:Nat} {c:Array Value} {w:World} {Q:Ending→World→Prop} {w':World} {e:Ending} {w1:World} (h:SeqR g o k c w Q w' e w1):Below w'.heap.size w' w1:=by obtain⟨_,_,_,_,h,_⟩:=h;exact h
section
variable {x y:Value} {w w' w1:World} {Q:Ending→World→Prop}
theorem SeqT.aa (t:SeqT x y w w' w1 Q) (hz:w.heap.size≤w1.heap.size):Q (.returned (.func (.func 384) #[] #[.pointer (some ⟨w1.heap.size,0,none⟩),.pointer (some ⟨w1.heap.size+1,0,none⟩)])) ((w1.alloc (.cells #[x] 241)).alloc (.cells #[y] 241)):=by
 refine t _ _ _ (by omega) hz (by omega) (.inr (Nat.le_refl _)) (.inr (by omega)) (fun j hj _ _=>?_) ?_ ?_ (by simp;omega) rfl rfl rfl
 ·rw [Below.heap_alloc _ _ _ (by simp;omega),Below.heap_alloc _ _ _ hj]
 ·rw [Below.heap_alloc _ _ _ (by simp)];exact heap_alloc_new _ _
 ·have:=heap_alloc_new (w1.alloc (.cells #[x] 241)) (.cells #[y] 241);simpa using this
theorem SeqT.aa' (t:SeqT x y w w' w1 Q) (hz:w.heap.size≤w1.heap.size):Q (.returned (.func (.func 384) #[] #[.pointer (some ⟨w1.heap.size+1,0,none⟩),.pointer (some ⟨w1.heap.size,0,none⟩)])) ((w1.alloc (.cells #[y] 241)).alloc (.cells #[x] 241)):=by
 refine t _ _ _ (by omega) (by omega) hz (.inr (by omega)) (.inr (Nat.le_refl _)) (fun j hj _ _=>?_) ?_ ?_ (by simp;omega) rfl rfl rfl
 ·rw [Below.heap_alloc _ _ _ (by simp;omega),Below.heap_alloc _ _ _ hj]
 ·have:=heap_alloc_new (w1.alloc (.cells #[y] 241)) (.cells #[x] 241);simpa using this
 ·rw [Below.heap_alloc _ _ _ (by simp)];exact heap_alloc_new _ _
theorem SeqT.sa (t:SeqT x y w w' w1 Q) {b:Nat} (h1:w.heap.size≤b) (h2:b<w'.heap.size) (h3:b<w1.heap.size) (hb:w1.heap[b]? =some (.cells #[.nilFunc] 241 (0,0))):Q (.returned (.func (.func 384) #[] #[.pointer (some ⟨b,0,none⟩),.pointer (some ⟨w1.heap.size,0,none⟩)])) ((w1.setCell ⟨b,0,none⟩ x).alloc (.cells #[y] 241)):=by
 refine t _ _ _ (by omega) h1 (by omega) (.inl h2) (.inr (Nat.le_refl _)) (fun j hj hj3 _=>?_) ?_ ?_ (by simp) rfl rfl rfl
 ·rw [Below.heap_alloc _ _ _ (by simpa using hj),qaa (a:=⟨b,0,none⟩) j hj3]
 ·rw [Below.heap_alloc _ _ _ (by simpa using h3)];exact qbc hb
 ·have:=heap_alloc_new (w1.setCell ⟨b,0,none⟩ x) (.cells #[y] 241);simpa using this
theorem SeqT.as (t:SeqT x y w w' w1 Q) {b:Nat} (h1:w.heap.size≤b) (h2:b<w'.heap.size) (h3:b<w1.heap.size) (hb:w1.heap[b]? =some (.cells #[.nilFunc] 241 (0,0))):Q (.returned (.func (.func 384) #[] #[.pointer (some ⟨w1.heap.size,0,none⟩),.pointer (some ⟨b,0,none⟩)])) ((w1.setCell ⟨b,0,none⟩ y).alloc (.cells #[x] 241)):=by
 refine t _ _ _ (by omega) (by omega) h1 (.inr (Nat.le_refl _)) (.inl h2) (fun j hj _ hj4=>?_) ?_ ?_ (by simp) rfl rfl rfl
 ·rw [Below.heap_alloc _ _ _ (by simpa using hj),qaa (a:=⟨b,0,none⟩) j hj4]
 ·have:=heap_alloc_new (w1.setCell ⟨b,0,none⟩ y) (.cells #[x] 241);simpa using this
 ·rw [Below.heap_alloc _ _ _ (by simpa using h3)];exact qbc hb
theorem SeqT.ss (t:SeqT x y w w' w1 Q) {b d:Nat} (hbd:b≠d) (h1:w.heap.size≤b) (h1':w.heap.size≤d) (h2:b<w'.heap.size) (h2':d<w'.heap.size) (hb:w1.heap[b]? =some (.cells #[.nilFunc] 241 (0,0))) (hd:w1.heap[d]? =some (.cells #[.nilFunc] 241 (0,0))):Q (.returned (.func (.func 384) #[] #[.pointer (some ⟨b,0,none⟩),.pointer (some ⟨d,0,none⟩)])) ((w1.setCell ⟨b,0,none⟩ x).setCell ⟨d,0,none⟩ y):=by
 refine t _ _ _ hbd h1 h1' (.inl h2) (.inl h2') (fun j hj hj3 hj4=>?_) ?_ ?_ (by simp) rfl rfl rfl
 ·rw [qaa (a:=⟨d,0,none⟩) j hj4,qaa (a:=⟨b,0,none⟩) j hj3]
 ·rw [qaa (a:=⟨d,0,none⟩) b hbd];exact qbc hb
 ·exact qbc (by rw [qaa (a:=⟨b,0,none⟩) d (Ne.symm hbd)];exact hd)
end
theorem qio (g o n cap k:Nat) (c:Array Value) (w:World) (Q:Ending→World→Prop) (h0:w.cell? ⟨g,o,none⟩=some (.func (.func k) #[] c)) (hc:n+2≤cap) (hn:n+2≤1000000)
  (hS:∀w',Below w.heap.size w w'→Calls prog 361 #[.slice (tl1 g o cap) (n+1) (cap-1)] w' (SeqR g o k c w Q w')):
  Calls prog 361 #[.slice (some ⟨g,o,none⟩) (n+2) cap] w Q:=by
 have hsl:∀w,(Instr.slice 426 (.slice (some ⟨g,o,none⟩) (n+2) cap) (some (.int .i64 1)) none none).run prog w=.ok (.slice (tl1 g o cap) (n+1) (cap-1)) w:=fun w=>qj7 g o (n+1) cap hc w
 have HS:=hZ hS
 have l0:=qac h0
 clear hS
 have hne:¬((n:Int)+2=1):=by omega
 have hlt:(0:Int)<(n:Int)+2:=by omega
 have h3:∀{w' w1:World} {b:Nat},w'.heap[b]? =some (.cells #[.nilFunc] 241 (0,0))→Below w'.heap.size w' w1→w1.cell? ⟨b,0,none⟩=some .nilFunc∧w1.frozen? ⟨b,0,none⟩=false∧b<w1.heap.size∧w1.heap[b]? =some (.cells #[.nilFunc] 241 (0,0))∧b<w'.heap.size:=fun {w' w1 b} hb hB=>by
  have hl:=(Array.getElem?_eq_some_iff.1 hb).1
  have:=(hB.block b hl).trans hb
  exact⟨by simp [World.cell?,this],by simp [World.frozen?,this],Nat.lt_of_lt_of_le hl hB.size,this,hl⟩
 have HS1:Hid (∀w',Lk (w.alloc (.cells #[.nilFunc] 241)) w'→Calls prog 361 #[.slice (tl1 g o cap) (n+1) (cap-1)] w' fun e w1=>(w1.cell? ⟨w.heap.size,0,none⟩=some .nilFunc∧w1.frozen? ⟨w.heap.size,0,none⟩=false∧w.heap.size<w1.heap.size∧w1.heap[w.heap.size]? =some (.cells #[.nilFunc] 241 (0,0))∧w.heap.size<w'.heap.size)∧SeqR g o k c w Q w' e w1):=fun w' hw=>Calls.mono (HS.out w' (bl1 hw)) fun e w1 h=>⟨h3 (by rw [hw.heap];exact heap_alloc_new _ _) h.below,h⟩
 have HS2:Hid (∀w',Lk ((w.alloc (.cells #[.nilFunc] 241)).alloc (.cells #[.nilFunc] 241)) w'→Calls prog 361 #[.slice (tl1 g o cap) (n+1) (cap-1)] w' fun e w1=>(w1.cell? ⟨w.heap.size,0,none⟩=some .nilFunc∧w1.frozen? ⟨w.heap.size,0,none⟩=false∧w.heap.size<w1.heap.size∧w1.heap[w.heap.size]? =some (.cells #[.nilFunc] 241 (0,0))∧w.heap.size<w'.heap.size)∧(w1.cell? ⟨w.heap.size+1,0,none⟩=some .nilFunc∧w1.frozen? ⟨w.heap.size+1,0,none⟩=false∧w.heap.size+1<w1.heap.size∧w1.heap[w.heap.size+1]? =some (.cells #[.nilFunc] 241 (0,0))∧w.heap.size+1<w'.heap.size)∧SeqR g o k c w Q w' e w1):=fun w' hw=>Calls.mono (HS.out w' (bl2 hw)) fun e w1 h=>⟨h3 (by rw [hw.heap,Below.heap_alloc _ _ _ (by simp)];exact heap_alloc_new _ _) h.below,h3 (by rw [hw.heap];have:=heap_alloc_new (w.alloc (.cells #[.nilFunc] 241)) (.cells #[.nilFunc] 241);simpa using this) h.below,h⟩
 clear h3
 go_enter func361,ntmps361
 go_wp2_with (fail)
 go_region_held3 (fun w'=>w'.cell? ⟨g,o,none⟩=some (.func (.func k) #[] c)) (first|(exact HC1.out.1)|(exact h0)|(exact qaj h0)|(exact qaj (qaj h0))|(exact qaj HC1.out.1)|(exact qaj (qaj HC1.out.1))|(exact qap HC1.out.1 (by simp;omega))|(exact qap (qap HC1.out.1 (by simp;omega)) (by simp;omega))|(exact qap (qaj HC1.out.1) (by simp;omega))|(exact qaj (qap HC1.out.1 (by simp;omega)))|(exact qap (qap (qaj HC1.out.1) (by simp;omega)) (by simp;omega))|(exact qap (qaj (qap HC1.out.1 (by simp;omega))) (by simp;omega))|go_keep|(trace_state;fail))
  (first
   |(go_at_call 361;refine(HS.out _ (bl0 (by exact⟨rfl,rfl,rfl,rfl⟩))).mono ?_;rintro e w1 ⟨k2,c2,rfl,hc⟩;have l1:=qac hc.1;have HC1:=hZ hc;clear hc)
   |(go_at_call 361;refine(HS1.out _ (by exact⟨rfl,rfl,rfl,rfl⟩)).mono ?_;rintro e w1 ⟨⟨d3,f3,z3,e3,y3⟩,k2,c2,rfl,hc⟩;have E3:=hZ (And.intro e3 y3);clear e3 y3;have l1:=qac hc.1;have HC1:=hZ hc;clear hc)
   |(go_at_call 361;refine(HS2.out _ (by exact⟨rfl,rfl,rfl,rfl⟩)).mono ?_;rintro e w1 ⟨⟨d3,f3,z3,e3,y3⟩,⟨d4,f4,z4,e4,y4⟩,k2,c2,rfl,hc⟩;have E3:=hZ (And.intro e3 y3);have E4:=hZ (And.intro e4 y4);clear e3 y3 e4 y4;have l1:=qac hc.1;have HC1:=hZ hc;clear hc))
 all_goals(try go_wp2)
 all_goals try go_ret
 all_goals have hz:w.heap.size≤w1.heap.size:=Nat.le_trans HC1.out.2.2.1 HC1.out.2.1.size
 all_goals first
  |exact HC1.out.2.2.2.aa hz
  |exact HC1.out.2.2.2.aa' hz
  |exact HC1.out.2.2.2.sa (Nat.le_refl _) E3.out.2 z3 E3.out.1
  |exact HC1.out.2.2.2.as (Nat.le_refl _) E3.out.2 z3 E3.out.1
  |exact HC1.out.2.2.2.ss (by omega) (Nat.le_refl _) (by omega) E3.out.2 E4.out.2 E3.out.1 E4.out.1
  |exact HC1.out.2.2.2.ss (by omega) (by omega) (Nat.le_refl _) E4.out.2 E3.out.2 E4.out.1 E3.out.1
end
section
open Sc
theorem Inv.turns {G:Gh} {S:Sub} {m:Mc} {w w':World} (i:Inv G S m w) (hk:∀j,j<w.heap.size→¬(G.I j=Option.none∧j∉G.mut∧¬G.F j)→w'.heap[j]? =w.heap[j]?) (hs:w.heap.size≤w'.heap.size) (ho:w'.os=w.os∧w'.tape=w.tape∧w'.output=w.output):Inv G S m w':=by
 have k:∀c,c<w.heap.size→(G.I c≠Option.none∨c∈G.mut∨G.F c)→w'.heap[c]? =w.heap[c]?:=fun c hc h=>hk c hc fun⟨h1,h2,h3⟩=>by
  rcases h with h|h|h
  ·exact h h1
  ·exact h2 h
  ·exact h3 h
 have km:∀{c:Nat},c∈G.mut→w'.heap[c]? =w.heap[c]?:=fun {c} hc=>k c (i.ml hc) (.inr (.inl hc))
 refine⟨fun {c x} hc=>by rw [k c (i.lt hc) (.inl (by rw [hc];exact nofun))];exact i.imm hc,i.nd,i.mi,fun h=>Nat.lt_of_lt_of_le (i.ml h) hs,i.st.keep (km i.m2),i.ce.keep (km i.m3),i.sl,i.cl,by rw [km i.m1];exact i.ma,by rw [km i.m4];exact i.mp,fun {s c} h=>by rw [km (i.m5 h)];exact i.gl h,i.gd,i.gk,?_,i.el,i.jl,i.jn,i.ji,⟨ho.1.trans i.fo.1,ho.2.1.trans i.fo.2.1,ho.2.2.trans i.fo.2.2⟩,fun {b} h=>⟨by rw [k b (i.ff h).2 (.inr (.inr h))];exact(i.ff h).1,Nat.lt_of_lt_of_le (i.ff h).2 hs⟩,i.fm,i.fi⟩
 intro j vs e hj
 obtain⟨fb,sv,pf,h1,h2,h3,h4⟩:=i.en hj
 exact⟨fb,sv,pf,h1,h2,h3,h4.mono (Gh.le.refl _) fun g o n cap hsv=>km (i.m6 (by rw [h1,hsv]))⟩
def SMade (G:Gh) (S:Sub) (m:Mc) (w:World) (sh:List Nat) (l:List Ex) (e':Ending) (w':World):Prop:=∃H x,e'=.returned x∧G.ext H w.heap.size∧Below w.heap.size w w'∧Inv H S m w'∧SRep H sh l x
theorem qin {S:Sub} {m:Mc} {sh:List Nat}:∀(l:List Ex) (e:Ex) (G:Gh) (w:World) (x:Value) (xs:List Value) (g o cap:Nat) (arr:Array Value),Inv G S m w→XRep G sh (e::l) (x::xs)→G.I g=some (.cells arr 241 (0,0))→xs.length+1≤cap→xs.length+1≤1000000→(∀i y,(x::xs)[i]? =some y→arr[o+i]? =some y)→
  Calls prog 361 #[.slice (some ⟨g,o,none⟩) (xs.length+1) cap] w (SMade G S m w sh (e::l))
 | [],e,G,w,x,xs,g,o,cap,arr,i,hx,hg,hc,hm,hr=>by
  cases hx with
  |cons _ _ _ _ _ h hs=>
   cases hs
   obtain⟨k,c,rfl,_⟩:=h.isF
   have c0:w.cell? ⟨g,o,none⟩=some (.func (.func k) #[] c):=by rw [i.cell hg];simpa using hr 0 _ rfl
   refine Calls.mono (qlk g o cap k c w c0) ?_
   rintro e' w' ⟨rfl,hw⟩
   exact⟨G,_,rfl,Gh.ext.refl _ _,bl0 hw,Inv.lk hw i,.one sh e _ h⟩
 |a::r,e,G,w,x,xs,g,o,cap,arr,i,hx,hg,hc,hm,hr=>by
  cases hx with
  |cons _ _ _ _ _ h hs=>
   cases xs with
   |nil=>cases hs
   |cons y ys=>
    obtain⟨k,c,rfl,_⟩:=h.isF
    have c0:w.cell? ⟨g,o,none⟩=some (.func (.func k) #[] c):=by rw [i.cell hg];simpa using hr 0 _ rfl
    have hc':ys.length+2≤cap:=by simpa using hc
    have hm':ys.length+2≤1000000:=by simpa using hm
    have htl:tl1 g o cap=some ⟨g,o+1,none⟩:=if_neg (by omega)
    have key:=qio g o ys.length cap k c w (SMade G S m w sh (e::a::r)) c0 hc' hm' (fun w' hb=>by
     have i':=i.below hb
     rw [htl]
     refine Calls.mono (qin r a G w' y ys g (o+1) (cap-1) arr i' hs hg (by omega) (by omega) (fun j z hz=>by have:=hr (j+1) z (by simpa using hz);rw [←this];congr 1;omega)) ?_
     rintro e' w1 ⟨H,z,rfl,hx1,hb1,i1,hz⟩
     obtain⟨k2,c2,rfl⟩:=hz.isFunc
     refine⟨k2,c2,rfl,by rw [i1.cell (hx1.le.I hg)];simpa using hr 0 _ rfl,hb1,hb.size,?_⟩
     intro b3 b4 w3 hne hz3 hz4 hq3 hq4 hk h3 h4 hs3 ho1 ho2 ho3
     have lo:∀b,w.heap.size≤b→(b<w'.heap.size∨w1.heap.size≤b)→H.I b=none∧b∉H.mut∧¬H.F b:=fun b hb0 hq=>by
      rcases hq with hq|hq
      ·exact⟨by rw [hx1.I hq];exact i.fresh hb0,by rw [hx1.mut];exact fun hm=>by have:=i.ml hm;omega,by rw [hx1.F];exact fun hf=>by have:=(i.ff hf).2;omega⟩
      ·exact(i1.looses) b hq
     obtain⟨l3a,l3b,l3c⟩:=lo b3 hz3 hq3
     obtain⟨l4a,l4b,l4c⟩:=lo b4 hz4 hq4
     have i3:Inv H S m w3:=i1.turns (fun j hj hjn=>hk j hj (fun e=>hjn (e▸⟨l3a,l3b,l3c⟩)) (fun e=>hjn (e▸⟨l4a,l4b,l4c⟩))) hs3 ⟨ho1,ho2,ho3⟩
     have i4:=i3.fix ⟨l3b,l3c⟩ l3a h3
     have i5:=i4.fix (g:=b4) ⟨by exact l4b,by exact l4c⟩ (by rw [qae _ (Ne.symm hne)];exact l4a) h4
     have e3:Gh.ext G ((H.add b3 (.cells #[.func (.func k) #[] c] 241)).add b4 (.cells #[.func (.func k2) #[] c2] 241)) w.heap.size:=
      ⟨(hx1.le.trans (Gh.le_add l3a)).trans (Gh.le_add (by rw [qae _ (Ne.symm hne)];exact l4a)),hx1.E,hx1.B,fun {b} hb'=>by
       rw [qae _ (by omega),qae _ (by omega)];exact hx1.I (Nat.lt_of_lt_of_le hb' hb.size),hx1.W,hx1.F⟩
     have hle:H.le ((H.add b3 (.cells #[.func (.func k) #[] c] 241)).add b4 (.cells #[.func (.func k2) #[] c2] 241)):=(Gh.le_add l3a).trans (Gh.le_add (by rw [qae _ (Ne.symm hne)];exact l4a))
     refine⟨_,_,rfl,e3,⟨ho1.trans (hb1.os.trans hb.os),ho2.trans (hb1.tape.trans hb.tape),ho3.trans (hb1.output.trans hb.output),Nat.le_trans (Nat.le_trans hb.size hb1.size) hs3,fun j hj=>?_⟩,i5,.cons sh e a r b3 b4 _ _ (by rw [qae _ hne];exact Gh.add_at _ _ _) (Gh.add_at _ _ _) ((h.mono hx1.le).mono hle) (hz.mono hle)⟩
     rw [hk j (Nat.lt_of_lt_of_le hj (Nat.le_trans hb.size hb1.size)) (by omega) (by omega),hb1.block j (Nat.lt_of_lt_of_le hj hb.size),hb.block j hj])
    simpa using key
theorem qtc {G:Gh} {S:Sub} {m:Mc} {w:World} {sh:List Nat} {e:Ex} {l:List Ex} {sa:Option Addr} {sn sc:Nat} {x:Value} {xs:List Value} (i:Inv G S m w) (hr:RowI G 241 (.slice sa sn sc) (x::xs)) (hx:XRep G sh (e::l) (x::xs)):Calls prog 338 #[bp G.mb,.slice sa sn sc] w (Made G S m w sh (.seq e l)):=by
 obtain⟨g,o,cap,arr,e1,hg,hc,hm,hz⟩:=hr
 cases e1
 refine qm5 G.mb _ _ _ w _ Made.ends fun w' hw=>?_
 have i':=Inv.lk hw i
 refine Calls.mono (qin l e G w' x xs g o sc arr i' hx hg (by simpa using hc) (by simpa using hm) hz) ?_
 rintro e' w1 ⟨H,y,rfl,hx1,hb1,i1,hy⟩
 obtain⟨kc,cc,rfl⟩:=hy.isFunc
 refine⟨kc,cc,rfl,fun w2 hw2=>?_⟩
 have key:=qci (sh:=sh) (e:=.seq e l) (Inv.lk hw2 i1) (.seq sh e l _ hy)
 have hmb:H.mb=G.mb:=hx1.le.mb
 rw [hmb]at key
 exact Calls.mono key fun e w3 h=>h.after ((Mv.lkl hw (Mv.ext hx1 hb1)).lk hw2)
def CntSaid (N:Nat):Prop:=∀(G:Gh) (S:Sub) (m:Mc) (w:World) (d:Dt) (e:Dl),SizeOf.sizeOf d<N→Inv G S m w→DRep G d e→members d≤1000000000000→Calls prog 229 #[.agg e.cells] w fun e' w'=>e'=.returned (.int .i64 (members d:Int))∧Below w.heap.size w w'
theorem qgc (l:List Dt) (k:Nat) (h:k<l.length):membersL (l.take (k+1))=membersL (l.take k)+1+members l[k]:=by
 induction l generalizing k with
 |nil=>simp at h
 |cons a r ih=>
  cases k with
  |zero=>simp [membersL]
  |succ k=>simp only [List.take_succ_cons,membersL,List.getElem_cons_succ];rw [ih k (by simpa using h)];omega
theorem qi7 (l:List Dt) (k:Nat):membersL (l.take k)≤membersL l:=by
 induction l generalizing k with
 |nil=>simp
 |cons a r ih=>
  cases k with
  |zero=>simp [membersL]
  |succ k=>simp only [List.take_succ_cons,membersL];have:=ih k;omega
theorem qhk (l:List Dt):l.length≤membersL l:=by
 induction l with
 |nil=>simp [membersL]
 |cons a r ih=>simp only [List.length_cons,membersL];omega
theorem qkz (N:Nat) (ih:CntSaid N) (G:Gh) (S:Sub) (m:Mc) (w:World) (l:List Dt) (xk xn:Int) (xtr:Bool) (xtx:ByteArray) (xm:Int) (xa:Option Addr) (xlen xcap:Nat) (i:Inv G S m w) (hz:SizeOf.sizeOf (Dt.list l)≤N) (hbig:membersL l≤1000000000000)
  (es:List Dl) (hl:l.length=es.length) (hd:∀(i:Nat) (d:Dt) (e:Dl),l[i]? =some d→es[i]? =some e→DRep G d e) (hlen:xlen=es.length)
  (hrow:∀(i j:Nat) (x:Dl),es[i]? =some x→j<6→∃g o,xa=some ⟨g,o,none⟩∧g<w.heap.size∧w.cell? ⟨g,o+i*6+j,none⟩=x.cells[j]?) (h100:xlen≤1000000):
  Calls prog 229 #[.agg (Dl.cells ⟨xk,xn,xtr,xtx,xm,xa,xlen,xcap⟩)] w fun e' w'=>e'=.returned (.int .i64 (membersL l:Int))∧Below w.heap.size w w':=by
 have HI:=hZ i
 have HD:=hZ hd
 have HL:=hZ hl
 have HLen:=hZ hlen
 have HRow:=hZ hrow
 have HIh:=hZ ih
 have HZ:=hZ hz
 have HBig:=hZ hbig
 clear i hd hl hlen hrow ih hz hbig
 go_enter func229,ntmps229
 go_wp2
 go_loopw [12,3] (fun c s wr=>∃(k:Nat),k≤xlen∧c=.int .i64 (k:Int)∧s=.int .i64 ((xlen:Int)+(membersL (l.take k):Int)-k)∧Below w.heap.size w wr) (fun c _ _=>xlen-(intOf c).toNat)
 case atStart=>exact⟨0,Nat.zero_le _,rfl,by simp [membersL],qab _ _⟩
 case round=>
  obtain⟨k,hk,rfl,rfl,hbl⟩:=hrel
  have HB:=hZ hbl
  clear hbl
  by_cases hlt:k<xlen
  ·have hke:k<es.length:=by rw [←HLen.out];exact hlt
   have hkl:k<l.length:=by rw [HL.out];exact hke
   obtain⟨⟨yk,yn,ytr,ytx,ym,ya,ylen,ycap⟩,hy⟩:∃y,y=es[k]:=⟨_,rfl⟩
   have hey:es[k]? =some ⟨yk,yn,ytr,ytx,ym,ya,ylen,ycap⟩:=by rw [hy];exact List.getElem?_eq_getElem hke
   obtain⟨g,o,rfl,hgw,c00⟩:=HRow.out k 0 _ hey (by omega)
   have cell:∀j,j<6→wr.cell? ⟨g,o+k*6+j,none⟩=(Dl.cells ⟨yk,yn,ytr,ytx,ym,ya,ylen,ycap⟩)[j]?:=fun j hj=>by
    obtain⟨g',o',e1,e2,e3⟩:=HRow.out k j _ hey hj
    cases e1
    exact(HB.out.cell (p:=⟨g,o+k*6+j,none⟩) hgw).trans e3
   have c0:wr.cell? ⟨g,o+k*6,none⟩=some (.int .i64 yk):=cell 0 (by omega)
   have c1:wr.cell? ⟨g,o+k*6+1,none⟩=some (.int .i64 yn):=cell 1 (by omega)
   have c2:wr.cell? ⟨g,o+k*6+2,none⟩=some (.bool ytr):=cell 2 (by omega)
   have c3:wr.cell? ⟨g,o+k*6+3,none⟩=some (.string ytx):=cell 3 (by omega)
   have c4:wr.cell? ⟨g,o+k*6+4,none⟩=some (.int .i64 ym):=cell 4 (by omega)
   have c5:wr.cell? ⟨g,o+k*6+5,none⟩=some (.slice ya ylen ycap):=cell 5 (by omega)
   have hdr:=HD.out k l[k] _ (List.getElem?_eq_getElem hkl) hey
   have hT:=qgc l k hkl
   have hT2:=qi7 l (k+1)
   have hT3:k≤membersL (l.take k):=by have:=qhk (l.take k);simp at this;omega
   have hB0:=HBig.out
   have HRep:Hid (∀w',Below wr.heap.size wr w'→Calls prog 229 #[.agg (Dl.cells ⟨yk,yn,ytr,ytx,ym,ya,ylen,ycap⟩)] w' fun e' w''=>e'=.returned (.int .i64 (members l[k]:Int))∧Below wr.heap.size wr w''):=fun w' hb=>by
    refine Calls.mono (HIh.out G S m w' l[k] _ (Nat.lt_of_lt_of_le (qj8 (List.getElem_mem hkl)) HZ.out) (HI.out.below (HB.out.trans (hb.mono HB.out.size))) hdr (by omega)) ?_
    rintro e' w'' ⟨r1,r5⟩
    exact⟨r1,hb.trans (r5.mono hb.size)⟩
   clear cell hy hdr c00
   have hkl':(k:Int)<(xlen:Int):=by omega
   have HT:=hZ (And.intro hT (And.intro hT2 hT3))
   obtain⟨mk,hmk⟩:∃mk,mk=members l[k]:=⟨_,rfl⟩
   obtain⟨sk,hsk⟩:∃sk,sk=membersL (l.take k):=⟨_,rfl⟩
   rw [←hmk]at HRep HT hT
   rw [←hsk]at HT hT hT3⊢
   have hbnd:(xlen:Int)+(sk:Int)-k+mk≤2000000000000∧0≤(xlen:Int)+(sk:Int)-k:=by omega
   clear hT hT2 hT3 hB0 hmk hsk
   go_wp2_with (go_at_call 229;refine(HRep.out _ (qab _ _)).mono ?_;rintro e w2 ⟨rfl,r5⟩;have HR5:=hZ r5;clear r5)
   go_roundw
   case rel=>
    refine⟨k+1,by omega,by go_num,?_,HB.out.trans (HR5.out.mono HB.out.size)⟩
    have:=HT.out.1
    rw [this]
    first|(congr 1;push_cast;omega)|(go_num)|skip
   case measure=>simp [intOf];omega
  ·have hke:k=xlen:=by omega
   have HK:=hZ hke
   clear hke
   have htk:l.take k=l:=by rw [HK.out,HLen.out,←HL.out];simp
   have hnl:¬(k:Int)<(xlen:Int):=by omega
   rw [htk]
   clear htk
   go_wp2
   go_ret
   exact⟨by rw [HK.out];simp [Array.getD];try omega,HB.out⟩
theorem qgq:∀N,CntSaid N
 |0=>fun G S m w d e h=>by omega
 |N+1=>fun G S m w d e hz i h hbig=>by
  obtain⟨xk,xn,xtr,xtx,xm,xa,xlen,xcap⟩:=e
  have atom:xlen=0→members d=0→Calls prog 229 #[.agg (Dl.cells ⟨xk,xn,xtr,xtx,xm,xa,xlen,xcap⟩)] w fun e' w'=>e'=.returned (.int .i64 (members d:Int))∧Below w.heap.size w w':=fun h0 h1=>by
   subst h0
   rw [h1]
   have hN:2≤N:=by
    have h2:2≤SizeOf.sizeOf d:=by
     cases d with
     |num v=>
      rw [Dt.num.sizeOf_spec]
      cases v with
      |ofNat n=>rw [Int.ofNat.sizeOf_spec];omega
      |negSucc n=>rw [Int.negSucc.sizeOf_spec];omega
     |list l=>cases l <;> simp <;> omega
     |str t=>cases t <;> simp <;> omega
     |sym t k=>cases t <;> simp <;> omega
     |bool b=>cases b <;> simp
    omega
   exact qkz N (qgq N) G S m w [] xk xn xtr xtx xm xa 0 xcap i (by simp;omega) (by simp [membersL]) [] rfl (fun i d e h=>by simp at h) rfl (fun i j x h=>by simp at h) (by omega)
  cases h with
  |num e h h0 h1 hc=>exact atom hc.1 rfl
  |bool e h hc=>exact atom hc.1 rfl
  |str e h hs hc=>exact atom hc.1 rfl
  |sym e h hs hc=>exact atom hc rfl
  |nil e h hl=>
   obtain rfl:xlen=0:=hl
   exact atom rfl rfl
  |list e h l es g o arr hl hc hm ha hg hr hs=>
   obtain rfl:xa=some ⟨g,o,none⟩:=ha
   obtain⟨hs1,hs2⟩:=hs.at
   exact qkz N (qgq N) G S m w l xk xn xtr xtx xm _ xlen xcap i (by omega) hbig es hs1 hs2 hl (fun i' j x hx hj=>⟨g,o,rfl,(Array.getElem?_eq_some_iff.1 (i.imm hg)).1,by rw [i.cell hg];exact hr i' j x hx hj⟩) (by have h2:xlen≤30000:=hm;omega)
theorem qmy (mb:Nat) (xk xn:Int) (xtr:Bool) (xtx:ByteArray) (xm:Int) (xa:Option Addr) (xlen xcap:Nat) (w:World) (Q:Ending→World→Prop) (hQ:∀e w,Q e w→∃v,e=.returned v)
  (hC:∀w',Lk ((w.alloc (.cells #[.pointer (some ⟨mb,0,none⟩)] 107)).alloc (.cells (Dl.cells ⟨xk,xn,xtr,xtx,xm,xa,xlen,xcap⟩) 134)) w'→Calls prog 229 #[.agg (Dl.cells ⟨xk,xn,xtr,xtx,xm,xa,xlen,xcap⟩)] w' fun e w1=>∃c,e=.returned (.int .i64 c)∧w1.cell? ⟨w.heap.size,0,none⟩=some (.pointer (some ⟨mb,0,none⟩))∧
   ∀w2,Lk (w1.alloc (.cells #[.int .i64 c] 3)) w2→Calls prog 339 #[.pointer (some ⟨mb,0,none⟩),.func (.func 340) #[] #[.pointer (some ⟨w.heap.size,0,none⟩),.pointer (some ⟨w1.heap.size,0,none⟩),.pointer (some ⟨w.heap.size+1,0,none⟩)]] w2 Q):
  Calls prog 298 #[.pointer (some ⟨mb,0,none⟩),.agg (Dl.cells ⟨xk,xn,xtr,xtx,xm,xa,xlen,xcap⟩)] w Q:=by
 have HC:=hZ hC
 have HQ:=hZ hQ
 clear hC hQ
 go_enter func298,ntmps298
 go_wp2_with (go_at_call 229;refine(HC.out _ (by exact⟨rfl,rfl,rfl,rfl⟩)).mono ?_;rintro e w1 ⟨c,rfl,hc,hk⟩;have lc:=qac hc;have hc2:=qaj (o:=.cells #[.int .i64 c] 3) hc;have HK:=hZ hk;clear hk;refine Hid.out ?_)
 refine hZ ?_
 go_wp2_with (go_at_call 339;refine(HK.out _ (by exact⟨rfl,rfl,rfl,rfl⟩)).mono ?_;intro e w2 hq;obtain⟨v,rfl⟩:=HQ.out _ _ hq)
 exact hq
theorem qky {G:Gh} {S:Sub} {m:Mc} {w:World} {sh:List Nat} {d:Dt} {e:Dl} (i:Inv G S m w) (hd:DRep G d e) (hbig:members d≤1000000000000):Calls prog 298 #[bp G.mb,.agg e.cells] w (Made G S m w sh (.quo d)):=by
 obtain⟨xk,xn,xtr,xtx,xm,xa,xlen,xcap⟩:=e
 refine qmy G.mb xk xn xtr xtx xm xa xlen xcap w _ Made.ends fun w' hw=>?_
 have i2:=Inv.lk hw (i.alloc2 (.cells #[bp G.mb] 107) (.cells (Dl.cells ⟨xk,xn,xtr,xtx,xm,xa,xlen,xcap⟩) 134))
 have x2:=i.x2 (.cells #[bp G.mb] 107) (.cells (Dl.cells ⟨xk,xn,xtr,xtx,xm,xa,xlen,xcap⟩) 134)
 have m2:=(Mv.ext x2 ((qab _ _).alloc (by simp) _)).lk hw
 generalize hH:(G.add w.heap.size (.cells #[bp G.mb] 107)).add (w.heap.size+1) (.cells (Dl.cells ⟨xk,xn,xtr,xtx,xm,xa,xlen,xcap⟩) 134)=H at i2 x2 m2
 have h0:H.I w.heap.size=some (.cells #[bp G.mb] 107 (0,0)):=by rw [←hH,qae _ (by omega)];exact Gh.add_at _ _ _
 have h1:H.I (w.heap.size+1)=some (.cells (Dl.cells ⟨xk,xn,xtr,xtx,xm,xa,xlen,xcap⟩) 134 (0,0)):=by rw [←hH];exact Gh.add_at _ _ _
 have hmb:H.mb=G.mb:=x2.le.mb
 refine Calls.mono (qgq _ H S m w' d _ (Nat.lt_succ_self _) i2 (hd.mono x2.le) hbig) ?_
 rintro e' w1 ⟨rfl,hb⟩
 have i3:=i2.below hb
 refine⟨_,rfl,by rw [i3.cell h0];rfl,fun w2 hw2=>?_⟩
 have i4:=Inv.lk hw2 (i3.alloc (.cells #[.int .i64 (members d:Int)] 3))
 have x4:=i3.x1 (.cells #[.int .i64 (members d:Int)] 3)
 have key:=qci (sh:=sh) (e:=.quo d) i4 (.quo sh d w.heap.size w1.heap.size (w.heap.size+1) _ (by
  show Gh.I _ _=some (.cells #[bp H.mb] 107 (0,0))
  rw [hmb];exact x4.le.I h0) (Gh.add_at _ _ _) (x4.le.I h1) ((hd.mono x2.le).mono x4.le))
 have e1:(H.add w1.heap.size (.cells #[.int .i64 (members d:Int)] 3)).mb=G.mb:=hmb
 rw [e1]at key
 exact Calls.mono key fun e w3 h=>h.after (m2.trans ((Mv.ext (Gh.ext.refl _ _) hb).trans ((Mv.ext x4 (qab _ _)).lk hw2)))
end
section
open Sc
abbrev idV (t:ByteArray) (m:Int):Value:=.agg #[.string t,.int .i64 m]
theorem eq382 (a b:ByteArray) (m k:Int) (w:World):(Op.equal 382 (idV a m) (idV b k)).run prog w=.ok (a==b&&m==k) w:=by
 have h:(Op.equalIn 10000 382 (idV a m) (idV b k)).run prog w=.ok (a==b&&m==k) w:=by
  rw [show(10000:Nat)=9998+1+1 from rfl,Op.equalIn]
  simp [run_underlying underlying382,go_sem]
  rw [qe1]
  simp only [ByteArray.toList_eq]
  have hd:(a.data=b.data)=(a.data.toList=b.data.toList):=propext ⟨fun h=>by rw [h],fun h=>Array.toList_inj.1 h⟩
  by_cases h1:a.data.toList=b.data.toList <;> by_cases h2:m=k <;> simp [hd,h1,h2]
 exact h
theorem qk0 (e:Bool) (a:ByteArray) (m:Int) (w:World):(Instr.checkKey e 10000 382 (idV a m)).run prog w=.ok () w:=by
 kernel_rfl
abbrev keyV (i:Sc.Id):Value:=idV ⟨i.1.toArray⟩ i.2
def lookI {α:Type} (i:Sc.Id):List (Sc.Id×α)→Option α
 | []=>none
 |(j,a)::r=>if i=j then some a else lookI i r
theorem findI (t:ByteArray) (m:Int) (w:World):∀(es:List MapEntry) (L:List (Sc.Id×Value)) (n:Nat),es.map (fun e=>(e.key,e.val))=L.map (fun p=>(keyV p.1,p.2))→
  ∃r,(Instr.findAsking 382 (idV t m) es n).run prog w=.ok r w∧r.map (·.2)=lookI (t.data.toList,m) L
 | [],[],n,_=>⟨none,by simp [Instr.findAsking],rfl⟩
 | [],_::_,n,h=>by simp at h
 |_::_,[],n,h=>by simp at h
 |e::es,(j,v)::L,n,h=>by
  simp only [List.map_cons,List.cons.injEq,Prod.mk.injEq]at h
  obtain⟨⟨h1,h2⟩,h3⟩:=h
  have he:=eq382 t ⟨j.1.toArray⟩ m j.2 w
  rw [qb8]at he
  by_cases hj:(t.data.toList,m)=j
  ·subst hj
   refine⟨some (n,v),?_,by simp [lookI]⟩
   simp [Instr.findAsking,h1,he,h2]
  ·have hf:(decide (t.data.toList=j.1)&&m==j.2)=false:=by
    by_cases h4:t.data.toList=j.1
    ·have:¬m=j.2:=fun h5=>hj (Prod.ext h4 h5)
     simp [h4,this]
    ·simp [h4]
   rw [hf]at he
   obtain⟨r,e1,e2⟩:=findI t m w es L (n+1) h3
   exact⟨r,by simp [Instr.findAsking,h1,he,e1],by simpa [lookI,hj]using e2⟩
theorem qsq (t:ByteArray) (m:Int) (w:World) (es:List MapEntry) (L:List (Sc.Id×Value)) (h:es.map (fun e=>(e.key,e.val))=L.map (fun p=>(keyV p.1,p.2))):
  ∃r,(Instr.findKey 382 (idV t m) es).run prog w=.ok r w∧r.map (·.2)=lookI (t.data.toList,m) L:=by
 cases es with
 |nil=>
  cases L with
  |nil=>exact⟨none,by simp [Instr.findKey,run_underlying underlying382,Instr.findNow],rfl⟩
  |cons a r=>simp at h
 |cons e es=>
  obtain⟨r,e1,e2⟩:=findI t m w (e::es) L 0 h
  refine⟨r,?_,e2⟩
  simp [Instr.findKey,run_underlying underlying382,Instr.findNow,Instr.sameNow,e1]
theorem qen (mp:Nat) (es:Array MapEntry) (clock:Nat) (L:List (Sc.Id×Value)) (t:ByteArray) (m:Int) (w:World) (hw:w.heap[mp]? =some (.map es clock)) (hL:es.toList.map (fun e=>(e.key,e.val))=L.map (fun p=>(keyV p.1,p.2))):
  (Instr.lookup 327 (.map (some mp)) (idV t m) false).run prog w=.ok ((lookI (t.data.toList,m) L).getD (.slice none 0 0)) w:=by
 obtain⟨r,e1,e2⟩:=qsq t m w es.toList L hL
 have hg:=qa5 mp es clock w hw
 cases r with
 |none=>
  cases hl:lookI (t.data.toList,m) L with
  |none=>simp [Instr.lookup,run_underlying underlying327,go_sem,hg,qk0,e1]
  |some b=>rw [hl]at e2;simp at e2
 |some p=>
  cases hl:lookI (t.data.toList,m) L with
  |none=>rw [hl]at e2;simp at e2
  |some b=>rw [hl]at e2;obtain⟨i,v⟩:=p;simp at e2;subst e2;simp [Instr.lookup,run_underlying underlying327,go_sem,hg,qk0,e1]
end
section
open Sc
def spots (i:Sc.Id):Scope→List (Nat×Nat)
 | []=>[]
 |l::r=>spots i r++(match findIn i l with|some n=>[(r.length+1,n)]|none=>[])
theorem qf3 {i:Sc.Id}:∀{sc:Scope} {p:Nat×Nat},p∈spots i sc→1≤p.1∧p.1≤sc.length
 | [],p,h=>by simp [spots]at h
 |l::r,p,h=>by
  simp only [spots,List.mem_append]at h
  rcases h with h|h
  ·have:=qf3 h;simp;omega
  ·cases hf:findIn i l with
   |none=>rw [hf]at h;simp at h
   |some n=>rw [hf]at h;simp at h;subst h;simp
theorem qea (i:Sc.Id):∀sc:Scope,(spots i sc).length≤sc.length
 | []=>by simp [spots]
 |l::r=>by
  have:=qea i r
  simp only [spots,List.length_append,List.length_cons]
  cases findIn i l <;> simp <;> omega
theorem qdp (i:Sc.Id):∀sc:Scope,find i sc=(spots i sc).getLast?.map fun p=>(sc.length-p.1,p.2)
 | []=>rfl
 |l::r=>by
  cases hf:findIn i l with
  |some n=>simp [find,spots,hf]
  |none=>
   simp only [find,spots,hf,List.append_nil]
   rw [qdp i r]
   cases hl:(spots i r).getLast? with
   |none=>rfl
   |some p=>
    have:=qf3 (List.mem_of_getLast? hl)
    simp;omega
def spotCells (l:List (Nat×Nat)):List Value:=l.flatMap fun p=>[.int .i64 (p.1:Int),.int .i64 (p.2:Int)]
structure Xe where
 xb:Nat
 rb:Nat
 mm:Nat
 ab:Nat
 bm:Nat
 lo:Nat
 Rw:Nat→Prop
def ScMapF (X:Xe) (sp:Sc.Id→List (Nat×Nat)) (w:World) (L:List (Sc.Id×Value)):Prop:=(∃es clock,w.heap[X.bm]? =some (.map es clock)∧es.toList.map (fun e=>(e.key,e.val))=L.map (fun p=>(keyV p.1,p.2))∧(es.toList.map (·.born)).Nodup∧∀e,e∈es.toList→e.born<clock)∧(L.map (·.1)).Nodup∧
 (∀p,p∈L→w.ownsRow X.lo 459 2 p.2 (sp p.1).length (spotCells (sp p.1)))∧(∀i,lookI i L=none→sp i=[])∧(L.filterMap (·.2.ownBlock)).Nodup
abbrev ScMap (X:Xe) (sc:Scope) (w:World) (L:List (Sc.Id×Value)):Prop:=ScMapF X (fun i=>spots i sc) w L
theorem qb5 {α:Type} {i:Sc.Id}:∀{L:List (Sc.Id×α)} {a:α},lookI i L=some a→(i,a)∈L
 | [],_,h=>by simp [lookI]at h
 |(j,b)::r,a,h=>by
  by_cases hs:i=j
  ·subst hs;simp [lookI]at h;subst h;simp
  ·simp [lookI,hs]at h;exact List.mem_cons_of_mem _ (qb5 h)
theorem qg7 (l:List (Nat×Nat)) (k:Nat) (p:Nat×Nat) (h:l[k]? =some p):(spotCells l)[2*k]? =some (.int .i64 (p.1:Int))∧(spotCells l)[2*k+1]? =some (.int .i64 (p.2:Int)):=by
 induction l generalizing k with
 |nil=>simp at h
 |cons a r ih=>
  cases k with
  |zero=>simp at h;subst h;simp [spotCells]
  |succ k=>
   have:=ih k (by simpa using h)
   simp only [spotCells,List.flatMap_cons]at this⊢
   rw [show 2*(k+1)=2*k+2 from by omega,show 2*k+2+1=2*k+1+2 from by omega]
   simpa using this
theorem qh0 (ab bm cap:Nat) (a:Option Addr) (_dp:Int) (t:ByteArray) (m:Int) (w:World) (h1:w.cell? ⟨ab,1,none⟩=some (.map (some bm))) (hbm:bm<w.heap.size)
  (hl:∀w',w'.heap[bm]? =w.heap[bm]?→(Instr.lookup 327 (.map (some bm)) (idV t m) false).run prog w'=.ok (.slice a 0 cap) w'):
  Calls prog 354 #[.pointer (some ⟨ab,0,none⟩),idV t m] w fun e w'=>e=.returned (.tuple #[.agg #[.int .i64 0,.int .i64 0],.bool false])∧Below w.heap.size w w':=by
 have l1:=qac h1
 have lb:bm<w.heap.size:=hbm
 have hl1:=hl ((w.alloc (.cells #[.string t,.int .i64 m] 382)).alloc (.cells #[.int .i64 0,.int .i64 0] 395)).drew (by show((w.alloc (.cells #[.string t,.int .i64 m] 382)).alloc (.cells #[.int .i64 0,.int .i64 0] 395)).heap[bm]? =_;rw [Below.heap_alloc _ _ _ (by simp;omega),Below.heap_alloc _ _ _ lb])
 unfold idV at hl1
 clear hl
 go_enter func354,ntmps354
 go_wp2
 go_region
 go_wp2
 refine bodyPost_ret (v:=.tuple #[.agg #[.int .i64 0,.int .i64 0],.bool false]) (by simp [results,results354,go_sem, *]) rfl ?_
 exact⟨rfl,bl2 (o:=.cells #[.string t,.int .i64 m] 382) (o2:=.cells #[.int .i64 0,.int .i64 0] 395) (by exact⟨rfl,rfl,rfl,rfl⟩)⟩
theorem qhz (ab bm cap g n:Nat) (dp d at':Int) (t:ByteArray) (m:Int) (w:World) (h0:w.cell? ⟨ab,0,none⟩=some (.int .i64 dp)) (h1:w.cell? ⟨ab,1,none⟩=some (.map (some bm))) (hbm:bm<w.heap.size)
  (hl:∀w',w'.heap[bm]? =w.heap[bm]?→(Instr.lookup 327 (.map (some bm)) (idV t m) false).run prog w'=.ok (.slice (some ⟨g,0,none⟩) (n+1) cap) w') (c0:w.cell? ⟨g,n*2,none⟩=some (.int .i64 d)) (c1:w.cell? ⟨g,n*2+1,none⟩=some (.int .i64 at')) (hn:n+1≤2000000000) (hd:0≤dp∧dp≤2000000000) (hd':0≤d∧d≤2000000000):
  Calls prog 354 #[.pointer (some ⟨ab,0,none⟩),idV t m] w fun e w'=>e=.returned (.tuple #[.agg #[.int .i64 (dp-d),.int .i64 at'],.bool true])∧Below w.heap.size w w':=by
 have l1:=qac h1
 have l2:=qac c0
 have lb:bm<w.heap.size:=hbm
 have hl1:=hl ((w.alloc (.cells #[.string t,.int .i64 m] 382)).alloc (.cells #[.int .i64 0,.int .i64 0] 395)).drew (by show((w.alloc (.cells #[.string t,.int .i64 m] 382)).alloc (.cells #[.int .i64 0,.int .i64 0] 395)).heap[bm]? =_;rw [Below.heap_alloc _ _ _ (by simp;omega),Below.heap_alloc _ _ _ lb])
 unfold idV at hl1
 clear hl
 have k0:(((w.alloc (.cells #[.string t,.int .i64 m] 382)).alloc (.cells #[.int .i64 0,.int .i64 0] 395)).alloc (.cells #[.int .i64 d,.int .i64 at'] 459)).cell? ⟨ab,0,none⟩=some (.int .i64 dp):=qaj (qaj (qaj h0))
 have hne:¬((n:Int)+1=0):=by omega
 have hs1:(n:Int)+1-1=n:=by omega
 have hlt:(n:Int)<(n:Int)+1:=by omega
 go_enter func354,ntmps354
 go_wp2
 go_region
 go_wp2
 go_region
 go_wp2
 refine bodyPost_ret (v:=.tuple #[.agg #[.int .i64 (dp-d),.int .i64 at'],.bool true]) (by simp [results,results354,go_sem, *]) rfl ?_
 exact⟨rfl,(((qab w (.cells #[.string t,.int .i64 m] 382)).alloc (by simp) (.cells #[.int .i64 (dp-d),.int .i64 at'] 395)).alloc (by simp;omega) (.cells #[.int .i64 d,.int .i64 at'] 459)).trans ((bl0 (by exact⟨rfl,rfl,rfl,rfl⟩)).mono (by simp;omega))⟩
end
end Go.Proofs.YtldaocpojcfljaaGreatDoor
