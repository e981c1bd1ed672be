import Derived.Test.YtldaocpojcfljaaGreatDoorC06
set_option maxRecDepth 100000
set_option maxHeartbeats 4000000
namespace Go.Proofs.YtldaocpojcfljaaGreatDoor
open Tryz hiding parts
section
namespace Rd
open Go.RowKit
theorem rdF_end (f d:Nat) (s:ByteArray) (p q:Nat) (hk:Px.skip false (L s p)=L s q) (h:s.size≤q):Py.rd (f+1) false d (L s p)=.inl (3,0):=by
 rw [Py.rd,hk,qgz s q h]
theorem qrn (f d:Nat) (s:ByteArray) (p q:Nat) (hk:Px.skip false (L s p)=L s q) (h:q<s.size) (hc:s[q].toNat=40) (hd:d≠30):Py.rd (f+1) false d (L s p)=listR (Py.rd f true (d+1) (L s (q+1))):=by
 rw [Py.rd,hk,L_lt s q h];simp only;rw [if_pos hc,if_neg hd]
 rcases Py.rd f true (d+1) (L s (q+1))with e|⟨xs,rr⟩ <;> rfl
theorem qkf (f d:Nat) (s:ByteArray) (p q:Nat) (hk:Px.skip false (L s p)=L s q) (h:q<s.size) (hc:s[q].toNat=40∨s[q].toNat=39) (hd:d=30):Py.rd (f+1) false d (L s p)=.inl (4,s.size-q):=by
 rw [Py.rd,hk,L_lt s q h];simp only
 have e:(L s (q+1)).length+1=s.size-q:=by rw [qb3];omega
 rcases hc with hc|hc
 ·rw [if_pos hc,if_pos hd,e]
 ·rw [if_neg (by omega),if_pos hc,if_pos hd,e]
theorem qn8 (f d:Nat) (s:ByteArray) (p q:Nat) (hk:Px.skip false (L s p)=L s q) (h:q<s.size) (hc:s[q].toNat=39) (hd:d≠30):Py.rd (f+1) false d (L s p)=quoteR (Py.rd f false (d+1) (L s (q+1))):=by
 rw [Py.rd,hk,L_lt s q h];simp only;rw [if_neg (by omega),if_pos hc,if_neg hd]
 rcases Py.rd f false (d+1) (L s (q+1))with e|⟨xs,rr⟩ <;> rfl
theorem rdF_str (f d:Nat) (s:ByteArray) (p q:Nat) (hk:Px.skip false (L s p)=L s q) (h:q<s.size) (hc:s[q].toNat=34):Py.rd (f+1) false d (L s p)=Py.str (L s (q+1)):=by
 rw [Py.rd,hk,L_lt s q h];simp only;rw [if_neg (by omega),if_neg (by omega),if_pos hc]
theorem qn7 (f d:Nat) (s:ByteArray) (p q:Nat) (hk:Px.skip false (L s p)=L s q) (h:q<s.size) (hc:s[q].toNat=35):Py.rd (f+1) false d (L s p)=Py.truth (L s (q+1)):=by
 rw [Py.rd,hk,L_lt s q h];simp only;rw [if_neg (by omega),if_neg (by omega),if_neg (by omega),if_pos hc]
theorem qrm (f d:Nat) (s:ByteArray) (p q:Nat) (hk:Px.skip false (L s p)=L s q) (h:q<s.size) (h1:s[q].toNat≠40) (h2:s[q].toNat≠39) (h3:s[q].toNat≠34) (h4:s[q].toNat≠35) (hw:Px.wordB s[q]=true):Py.rd (f+1) false d (L s p)=Py.word (L s q):=by
 rw [Py.rd,hk,L_lt s q h];simp only;rw [if_neg h1,if_neg h2,if_neg h3,if_neg h4,if_pos hw]
theorem rdF_bad (f d:Nat) (s:ByteArray) (p q:Nat) (hk:Px.skip false (L s p)=L s q) (h:q<s.size) (h1:s[q].toNat≠40) (h2:s[q].toNat≠39) (h3:s[q].toNat≠34) (h4:s[q].toNat≠35) (hw:Px.wordB s[q]=false):Py.rd (f+1) false d (L s p)=.inl (2,s.size-q):=by
 rw [Py.rd,hk,L_lt s q h];simp only;rw [if_neg h1,if_neg h2,if_neg h3,if_neg h4,if_neg (by simp [hw])]
 have e:(L s (q+1)).length+1=s.size-q:=by rw [qb3];omega
 rw [e]
structure At (b:Nat) (s:ByteArray) (q d:Nat) (w w1:World):Prop where
 rd:Rd b s q d w1
 only:Only b w w1
 box:Box w.heap.size w1
 lt:w.heap.size<w1.heap.size
theorem qd1 (s:ByteArray) (p q:Nat) (hp:p≤s.size) (hq:q≤s.size) (h:L s p=L s q):p=q:=by
 have h1:=congrArg List.length h
 rw [qb3,qb3]at h1;omega
theorem qe0 (b:Nat) (s:ByteArray) (p q d:Nat) (r:Py.R) (w:World) (h:Rd b s p d w) (hp:p≤s.size) (hs:s.size≤1200) (hG:GV w) (hb6:6≤b) (hk:Px.skip false (L s p)=L s q) (hlt:q<s.size)
  (c40:((s[q].toNat:Int)==40)=true)
  (hC:∀w,Rd b s q d w→GV w→Calls prog 148 #[.pointer (some ⟨b,0,none⟩),.func (.func 149) #[.pointer (some ⟨b,0,none⟩)] #[]] w fun e w'=>Res b s d r w e w'):
  Calls prog 88 #[.pointer (some ⟨b,0,none⟩)] w fun e w'=>Res b s d r w e w':=by
 have hb:=h.lt
 have HR:=hZ h
 have HG:=hZ hG
 have HK:=hZ hk
 have HC:=hZ hC
 clear h hG hk hC
 rcases r with⟨c,k⟩|⟨ts,rr⟩
 ·
  go_enter func88,ntmps88
  go_wp2_with (go_at_call 86;refine(qa2 b s p d _ (HR.out.alloc _) hp hs).mono ?_;rintro e w1 ⟨rfl,q',hpq',hq',hsk',hR0,hO0⟩;refine Hid.out ?_)
  obtain rfl:q'=q:=qd1 s q' q hq' (by omega) (hsk'.symm.trans HK.out)
  have hA:At b s q' d w w1:=⟨hR0,((Only.refl b w).alloc _).trans hO0,(Box.new w _ _ _ _ _ _).kept hO0 (by intro e;cases e;omega) (by simp),by have:=hO0.size;simp at this;omega⟩
  have HA:=hZ hA
  have h0':=hR0.c0
  have h1':=hR0.c1
  have hlt1:=hA.lt
  clear hsk' hR0 hO0 hA
  have hd:((q':Int)==(s.size:Int))=false:=by simp;omega
  refine hZ ?_
  go_wp2_with (go_at_call 87;refine(qah b s q' d _ HA.out.rd).mono ?_;rintro e w' ⟨rfl,n1,rfl⟩)
  go_quiet (fail)
  go_wp2_with (first|(go_at_call 148;refine(HC.out _ (by exact HA.out.rd.drewN _) (by exact HG.out.only (HA.out.only.drewN _) hb6 (by omega))).mono ?_;rintro e w2 ⟨hO,N,rfl,hN0,hN,p',hR1⟩;refine Hid.out ?_))
  have hz1:w1.heap.size≤w2.heap.size:=by have:=hO.size;simpa using this
  have HO1:=hZ ((HA.out.only.drewN _).trans hO)
  have HR1:=hZ hR1
  have hN9:w.heap.size+1≤N:=by simp at hN0;omega
  have HN:=hZ hN
  obtain⟨⟨y0,k0⟩,⟨y1,k1⟩,⟨y2,k2⟩,⟨y3,k3⟩,⟨y4,k4⟩,⟨y5,k5⟩,kf⟩:=(HA.out.box.drewN _).kept hO (by intro e;cases e;omega) (by simpa using hlt1)
  clear hO hN hN0 hR1
  refine hZ ?_
  go_wp2
  refine bodyPost_ret (v:=.tuple #[El.nil.v,.pointer (some ⟨N,0,none⟩)]) (by simp [results,results88,go_sem, *]) rfl ?_
  exact Res.err HO1.out (Nat.le_refl _) (by omega) (by omega) HN.out rfl rfl HR1.out hb _ _ _ _ _ _
 ·
  go_enter func88,ntmps88
  go_wp2_with (go_at_call 86;refine(qa2 b s p d _ (HR.out.alloc _) hp hs).mono ?_;rintro e w1 ⟨rfl,q',hpq',hq',hsk',hR0,hO0⟩;refine Hid.out ?_)
  obtain rfl:q'=q:=qd1 s q' q hq' (by omega) (hsk'.symm.trans HK.out)
  have hA:At b s q' d w w1:=⟨hR0,((Only.refl b w).alloc _).trans hO0,(Box.new w _ _ _ _ _ _).kept hO0 (by intro e;cases e;omega) (by simp),by have:=hO0.size;simp at this;omega⟩
  have HA:=hZ hA
  have h0':=hR0.c0
  have h1':=hR0.c1
  have hlt1:=hA.lt
  clear hsk' hR0 hO0 hA
  have hd:((q':Int)==(s.size:Int))=false:=by simp;omega
  refine hZ ?_
  go_wp2_with (go_at_call 87;refine(qah b s q' d _ HA.out.rd).mono ?_;rintro e w' ⟨rfl,n1,rfl⟩)
  go_quiet (fail)
  go_wp2_with (first|(go_at_call 148;refine(HC.out _ (by exact HA.out.rd.drewN _) (by exact HG.out.only (HA.out.only.drewN _) hb6 (by omega))).mono ?_;rintro e w2 ⟨hO,x,t,rfl,rfl,hrep,hrd⟩;refine Hid.out ?_))
  have hz1:w1.heap.size≤w2.heap.size:=by have:=hO.size;simpa using this
  have HO1:=hZ ((HA.out.only.drewN _).trans hO)
  have HR1:=hZ hrd
  have HRep:=hZ hrep
  obtain⟨⟨y0,k0⟩,⟨y1,k1⟩,⟨y2,k2⟩,⟨y3,k3⟩,⟨y4,k4⟩,⟨y5,k5⟩,kf⟩:=(HA.out.box.drewN _).kept hO (by intro e;cases e;omega) (by simpa using hlt1)
  clear hO hrep hrd
  obtain⟨xk,xn,xtr,xtx,xm,xa,xlen,xcap⟩:=x
  refine hZ ?_
  go_wp2
  refine bodyPost_ret (v:=.tuple #[El.v ⟨xk,xn,xtr,xtx,xm,xa,xlen,xcap⟩,.pointer none]) (by simp [results,results88,go_sem, *]) rfl ?_
  exact Res.ok HO1.out (Nat.le_refl _) (by simpa using hlt1) hb HRep.out HR1.out rfl _ _ _ _ _ _
theorem qez (b:Nat) (s:ByteArray) (p q d:Nat) (r:Py.R) (w:World) (h:Rd b s p d w) (hp:p≤s.size) (hs:s.size≤1200) (hG:GV w) (hb6:6≤b) (hk:Px.skip false (L s p)=L s q) (hlt:q<s.size)
  (c40:((s[q].toNat:Int)==40)=false) (c39:((s[q].toNat:Int)==39)=true)
  (hC:∀w,Rd b s q d w→GV w→Calls prog 148 #[.pointer (some ⟨b,0,none⟩),.func (.func 150) #[.pointer (some ⟨b,0,none⟩)] #[]] w fun e w'=>Res b s d r w e w'):
  Calls prog 88 #[.pointer (some ⟨b,0,none⟩)] w fun e w'=>Res b s d r w e w':=by
 have hb:=h.lt
 have HR:=hZ h
 have HG:=hZ hG
 have HK:=hZ hk
 have HC:=hZ hC
 clear h hG hk hC
 rcases r with⟨c,k⟩|⟨ts,rr⟩
 ·
  go_enter func88,ntmps88
  go_wp2_with (go_at_call 86;refine(qa2 b s p d _ (HR.out.alloc _) hp hs).mono ?_;rintro e w1 ⟨rfl,q',hpq',hq',hsk',hR0,hO0⟩;refine Hid.out ?_)
  obtain rfl:q'=q:=qd1 s q' q hq' (by omega) (hsk'.symm.trans HK.out)
  have hA:At b s q' d w w1:=⟨hR0,((Only.refl b w).alloc _).trans hO0,(Box.new w _ _ _ _ _ _).kept hO0 (by intro e;cases e;omega) (by simp),by have:=hO0.size;simp at this;omega⟩
  have HA:=hZ hA
  have h0':=hR0.c0
  have h1':=hR0.c1
  have hlt1:=hA.lt
  clear hsk' hR0 hO0 hA
  have hd:((q':Int)==(s.size:Int))=false:=by simp;omega
  refine hZ ?_
  go_wp2_with (go_at_call 87;refine(qah b s q' d _ HA.out.rd).mono ?_;rintro e w' ⟨rfl,n1,rfl⟩)
  go_quiet (fail)
  go_wp2_with (first|(go_at_call 148;refine(HC.out _ (by exact HA.out.rd.drewN _) (by exact HG.out.only (HA.out.only.drewN _) hb6 (by omega))).mono ?_;rintro e w2 ⟨hO,N,rfl,hN0,hN,p',hR1⟩;refine Hid.out ?_))
  have hz1:w1.heap.size≤w2.heap.size:=by have:=hO.size;simpa using this
  have HO1:=hZ ((HA.out.only.drewN _).trans hO)
  have HR1:=hZ hR1
  have hN9:w.heap.size+1≤N:=by simp at hN0;omega
  have HN:=hZ hN
  obtain⟨⟨y0,k0⟩,⟨y1,k1⟩,⟨y2,k2⟩,⟨y3,k3⟩,⟨y4,k4⟩,⟨y5,k5⟩,kf⟩:=(HA.out.box.drewN _).kept hO (by intro e;cases e;omega) (by simpa using hlt1)
  clear hO hN hN0 hR1
  refine hZ ?_
  go_wp2
  refine bodyPost_ret (v:=.tuple #[El.nil.v,.pointer (some ⟨N,0,none⟩)]) (by simp [results,results88,go_sem, *]) rfl ?_
  exact Res.err HO1.out (Nat.le_refl _) (by omega) (by omega) HN.out rfl rfl HR1.out hb _ _ _ _ _ _
 ·
  go_enter func88,ntmps88
  go_wp2_with (go_at_call 86;refine(qa2 b s p d _ (HR.out.alloc _) hp hs).mono ?_;rintro e w1 ⟨rfl,q',hpq',hq',hsk',hR0,hO0⟩;refine Hid.out ?_)
  obtain rfl:q'=q:=qd1 s q' q hq' (by omega) (hsk'.symm.trans HK.out)
  have hA:At b s q' d w w1:=⟨hR0,((Only.refl b w).alloc _).trans hO0,(Box.new w _ _ _ _ _ _).kept hO0 (by intro e;cases e;omega) (by simp),by have:=hO0.size;simp at this;omega⟩
  have HA:=hZ hA
  have h0':=hR0.c0
  have h1':=hR0.c1
  have hlt1:=hA.lt
  clear hsk' hR0 hO0 hA
  have hd:((q':Int)==(s.size:Int))=false:=by simp;omega
  refine hZ ?_
  go_wp2_with (go_at_call 87;refine(qah b s q' d _ HA.out.rd).mono ?_;rintro e w' ⟨rfl,n1,rfl⟩)
  go_quiet (fail)
  go_wp2_with (first|(go_at_call 148;refine(HC.out _ (by exact HA.out.rd.drewN _) (by exact HG.out.only (HA.out.only.drewN _) hb6 (by omega))).mono ?_;rintro e w2 ⟨hO,x,t,rfl,rfl,hrep,hrd⟩;refine Hid.out ?_))
  have hz1:w1.heap.size≤w2.heap.size:=by have:=hO.size;simpa using this
  have HO1:=hZ ((HA.out.only.drewN _).trans hO)
  have HR1:=hZ hrd
  have HRep:=hZ hrep
  obtain⟨⟨y0,k0⟩,⟨y1,k1⟩,⟨y2,k2⟩,⟨y3,k3⟩,⟨y4,k4⟩,⟨y5,k5⟩,kf⟩:=(HA.out.box.drewN _).kept hO (by intro e;cases e;omega) (by simpa using hlt1)
  clear hO hrep hrd
  obtain⟨xk,xn,xtr,xtx,xm,xa,xlen,xcap⟩:=x
  refine hZ ?_
  go_wp2
  refine bodyPost_ret (v:=.tuple #[El.v ⟨xk,xn,xtr,xtx,xm,xa,xlen,xcap⟩,.pointer none]) (by simp [results,results88,go_sem, *]) rfl ?_
  exact Res.ok HO1.out (Nat.le_refl _) (by simpa using hlt1) hb HRep.out HR1.out rfl _ _ _ _ _ _
theorem qpt (b:Nat) (s:ByteArray) (p q d:Nat) (r:Py.R) (w:World) (h:Rd b s p d w) (hp:p≤s.size) (hs:s.size≤1200) (hG:GV w) (hb6:6≤b) (hk:Px.skip false (L s p)=L s q) (hlt:q<s.size)
  (c40:((s[q].toNat:Int)==40)=false) (c39:((s[q].toNat:Int)==39)=false) (c34:((s[q].toNat:Int)==34)=true)
  (hC:∀w,Rd b s q d w→GV w→Calls prog 151 #[.pointer (some ⟨b,0,none⟩)] w fun e w'=>Res b s d r w e w'):
  Calls prog 88 #[.pointer (some ⟨b,0,none⟩)] w fun e w'=>Res b s d r w e w':=by
 have hb:=h.lt
 have HR:=hZ h
 have HG:=hZ hG
 have HK:=hZ hk
 have HC:=hZ hC
 clear h hG hk hC
 rcases r with⟨c,k⟩|⟨ts,rr⟩
 ·
  go_enter func88,ntmps88
  go_wp2_with (go_at_call 86;refine(qa2 b s p d _ (HR.out.alloc _) hp hs).mono ?_;rintro e w1 ⟨rfl,q',hpq',hq',hsk',hR0,hO0⟩;refine Hid.out ?_)
  obtain rfl:q'=q:=qd1 s q' q hq' (by omega) (hsk'.symm.trans HK.out)
  have hA:At b s q' d w w1:=⟨hR0,((Only.refl b w).alloc _).trans hO0,(Box.new w _ _ _ _ _ _).kept hO0 (by intro e;cases e;omega) (by simp),by have:=hO0.size;simp at this;omega⟩
  have HA:=hZ hA
  have h0':=hR0.c0
  have h1':=hR0.c1
  have hlt1:=hA.lt
  clear hsk' hR0 hO0 hA
  have hd:((q':Int)==(s.size:Int))=false:=by simp;omega
  refine hZ ?_
  go_wp2_with (go_at_call 87;refine(qah b s q' d _ HA.out.rd).mono ?_;rintro e w' ⟨rfl,n1,rfl⟩)
  go_quiet (fail)
  go_wp2_with (first|(go_at_call 151;refine(HC.out _ (by exact HA.out.rd.drewN _) (by exact HG.out.only (HA.out.only.drewN _) hb6 (by omega))).mono ?_;rintro e w2 ⟨hO,N,rfl,hN0,hN,p',hR1⟩;refine Hid.out ?_))
  have hz1:w1.heap.size≤w2.heap.size:=by have:=hO.size;simpa using this
  have HO1:=hZ ((HA.out.only.drewN _).trans hO)
  have HR1:=hZ hR1
  have hN9:w.heap.size+1≤N:=by simp at hN0;omega
  have HN:=hZ hN
  obtain⟨⟨y0,k0⟩,⟨y1,k1⟩,⟨y2,k2⟩,⟨y3,k3⟩,⟨y4,k4⟩,⟨y5,k5⟩,kf⟩:=(HA.out.box.drewN _).kept hO (by intro e;cases e;omega) (by simpa using hlt1)
  clear hO hN hN0 hR1
  refine hZ ?_
  go_wp2
  refine bodyPost_ret (v:=.tuple #[El.nil.v,.pointer (some ⟨N,0,none⟩)]) (by simp [results,results88,go_sem, *]) rfl ?_
  exact Res.err HO1.out (Nat.le_refl _) (by omega) (by omega) HN.out rfl rfl HR1.out hb _ _ _ _ _ _
 ·
  go_enter func88,ntmps88
  go_wp2_with (go_at_call 86;refine(qa2 b s p d _ (HR.out.alloc _) hp hs).mono ?_;rintro e w1 ⟨rfl,q',hpq',hq',hsk',hR0,hO0⟩;refine Hid.out ?_)
  obtain rfl:q'=q:=qd1 s q' q hq' (by omega) (hsk'.symm.trans HK.out)
  have hA:At b s q' d w w1:=⟨hR0,((Only.refl b w).alloc _).trans hO0,(Box.new w _ _ _ _ _ _).kept hO0 (by intro e;cases e;omega) (by simp),by have:=hO0.size;simp at this;omega⟩
  have HA:=hZ hA
  have h0':=hR0.c0
  have h1':=hR0.c1
  have hlt1:=hA.lt
  clear hsk' hR0 hO0 hA
  have hd:((q':Int)==(s.size:Int))=false:=by simp;omega
  refine hZ ?_
  go_wp2_with (go_at_call 87;refine(qah b s q' d _ HA.out.rd).mono ?_;rintro e w' ⟨rfl,n1,rfl⟩)
  go_quiet (fail)
  go_wp2_with (first|(go_at_call 151;refine(HC.out _ (by exact HA.out.rd.drewN _) (by exact HG.out.only (HA.out.only.drewN _) hb6 (by omega))).mono ?_;rintro e w2 ⟨hO,x,t,rfl,rfl,hrep,hrd⟩;refine Hid.out ?_))
  have hz1:w1.heap.size≤w2.heap.size:=by have:=hO.size;simpa using this
  have HO1:=hZ ((HA.out.only.drewN _).trans hO)
  have HR1:=hZ hrd
  have HRep:=hZ hrep
  obtain⟨⟨y0,k0⟩,⟨y1,k1⟩,⟨y2,k2⟩,⟨y3,k3⟩,⟨y4,k4⟩,⟨y5,k5⟩,kf⟩:=(HA.out.box.drewN _).kept hO (by intro e;cases e;omega) (by simpa using hlt1)
  clear hO hrep hrd
  obtain⟨xk,xn,xtr,xtx,xm,xa,xlen,xcap⟩:=x
  refine hZ ?_
  go_wp2
  refine bodyPost_ret (v:=.tuple #[El.v ⟨xk,xn,xtr,xtx,xm,xa,xlen,xcap⟩,.pointer none]) (by simp [results,results88,go_sem, *]) rfl ?_
  exact Res.ok HO1.out (Nat.le_refl _) (by simpa using hlt1) hb HRep.out HR1.out rfl _ _ _ _ _ _
theorem qjs (b:Nat) (s:ByteArray) (p q d:Nat) (r:Py.R) (w:World) (h:Rd b s p d w) (hp:p≤s.size) (hs:s.size≤1200) (hG:GV w) (hb6:6≤b) (hk:Px.skip false (L s p)=L s q) (hlt:q<s.size)
  (c40:((s[q].toNat:Int)==40)=false) (c39:((s[q].toNat:Int)==39)=false) (c34:((s[q].toNat:Int)==34)=false) (c35:((s[q].toNat:Int)==35)=true)
  (hC:∀w,Rd b s q d w→GV w→Calls prog 152 #[.pointer (some ⟨b,0,none⟩)] w fun e w'=>Res b s d r w e w'):
  Calls prog 88 #[.pointer (some ⟨b,0,none⟩)] w fun e w'=>Res b s d r w e w':=by
 have hb:=h.lt
 have HR:=hZ h
 have HG:=hZ hG
 have HK:=hZ hk
 have HC:=hZ hC
 clear h hG hk hC
 rcases r with⟨c,k⟩|⟨ts,rr⟩
 ·
  go_enter func88,ntmps88
  go_wp2_with (go_at_call 86;refine(qa2 b s p d _ (HR.out.alloc _) hp hs).mono ?_;rintro e w1 ⟨rfl,q',hpq',hq',hsk',hR0,hO0⟩;refine Hid.out ?_)
  obtain rfl:q'=q:=qd1 s q' q hq' (by omega) (hsk'.symm.trans HK.out)
  have hA:At b s q' d w w1:=⟨hR0,((Only.refl b w).alloc _).trans hO0,(Box.new w _ _ _ _ _ _).kept hO0 (by intro e;cases e;omega) (by simp),by have:=hO0.size;simp at this;omega⟩
  have HA:=hZ hA
  have h0':=hR0.c0
  have h1':=hR0.c1
  have hlt1:=hA.lt
  clear hsk' hR0 hO0 hA
  have hd:((q':Int)==(s.size:Int))=false:=by simp;omega
  refine hZ ?_
  go_wp2_with (go_at_call 87;refine(qah b s q' d _ HA.out.rd).mono ?_;rintro e w' ⟨rfl,n1,rfl⟩)
  go_quiet (fail)
  go_wp2_with (first|(go_at_call 152;refine(HC.out _ (by exact HA.out.rd.drewN _) (by exact HG.out.only (HA.out.only.drewN _) hb6 (by omega))).mono ?_;rintro e w2 ⟨hO,N,rfl,hN0,hN,p',hR1⟩;refine Hid.out ?_))
  have hz1:w1.heap.size≤w2.heap.size:=by have:=hO.size;simpa using this
  have HO1:=hZ ((HA.out.only.drewN _).trans hO)
  have HR1:=hZ hR1
  have hN9:w.heap.size+1≤N:=by simp at hN0;omega
  have HN:=hZ hN
  obtain⟨⟨y0,k0⟩,⟨y1,k1⟩,⟨y2,k2⟩,⟨y3,k3⟩,⟨y4,k4⟩,⟨y5,k5⟩,kf⟩:=(HA.out.box.drewN _).kept hO (by intro e;cases e;omega) (by simpa using hlt1)
  clear hO hN hN0 hR1
  refine hZ ?_
  go_wp2
  refine bodyPost_ret (v:=.tuple #[El.nil.v,.pointer (some ⟨N,0,none⟩)]) (by simp [results,results88,go_sem, *]) rfl ?_
  exact Res.err HO1.out (Nat.le_refl _) (by omega) (by omega) HN.out rfl rfl HR1.out hb _ _ _ _ _ _
 ·
  go_enter func88,ntmps88
  go_wp2_with (go_at_call 86;refine(qa2 b s p d _ (HR.out.alloc _) hp hs).mono ?_;rintro e w1 ⟨rfl,q',hpq',hq',hsk',hR0,hO0⟩;refine Hid.out ?_)
  obtain rfl:q'=q:=qd1 s q' q hq' (by omega) (hsk'.symm.trans HK.out)
  have hA:At b s q' d w w1:=⟨hR0,((Only.refl b w).alloc _).trans hO0,(Box.new w _ _ _ _ _ _).kept hO0 (by intro e;cases e;omega) (by simp),by have:=hO0.size;simp at this;omega⟩
  have HA:=hZ hA
  have h0':=hR0.c0
  have h1':=hR0.c1
  have hlt1:=hA.lt
  clear hsk' hR0 hO0 hA
  have hd:((q':Int)==(s.size:Int))=false:=by simp;omega
  refine hZ ?_
  go_wp2_with (go_at_call 87;refine(qah b s q' d _ HA.out.rd).mono ?_;rintro e w' ⟨rfl,n1,rfl⟩)
  go_quiet (fail)
  go_wp2_with (first|(go_at_call 152;refine(HC.out _ (by exact HA.out.rd.drewN _) (by exact HG.out.only (HA.out.only.drewN _) hb6 (by omega))).mono ?_;rintro e w2 ⟨hO,x,t,rfl,rfl,hrep,hrd⟩;refine Hid.out ?_))
  have hz1:w1.heap.size≤w2.heap.size:=by have:=hO.size;simpa using this
  have HO1:=hZ ((HA.out.only.drewN _).trans hO)
  have HR1:=hZ hrd
  have HRep:=hZ hrep
  obtain⟨⟨y0,k0⟩,⟨y1,k1⟩,⟨y2,k2⟩,⟨y3,k3⟩,⟨y4,k4⟩,⟨y5,k5⟩,kf⟩:=(HA.out.box.drewN _).kept hO (by intro e;cases e;omega) (by simpa using hlt1)
  clear hO hrep hrd
  obtain⟨xk,xn,xtr,xtx,xm,xa,xlen,xcap⟩:=x
  refine hZ ?_
  go_wp2
  refine bodyPost_ret (v:=.tuple #[El.v ⟨xk,xn,xtr,xtx,xm,xa,xlen,xcap⟩,.pointer none]) (by simp [results,results88,go_sem, *]) rfl ?_
  exact Res.ok HO1.out (Nat.le_refl _) (by simpa using hlt1) hb HRep.out HR1.out rfl _ _ _ _ _ _
theorem qmx (b:Nat) (s:ByteArray) (p q d:Nat) (r:Py.R) (w:World) (h:Rd b s p d w) (hp:p≤s.size) (hs:s.size≤1200) (hG:GV w) (hb6:6≤b) (hk:Px.skip false (L s p)=L s q) (hlt:q<s.size)
  (c40:((s[q].toNat:Int)==40)=false) (c39:((s[q].toNat:Int)==39)=false) (c34:((s[q].toNat:Int)==34)=false) (c35:((s[q].toNat:Int)==35)=false) (hw:Px.wordB s[q]=true)
  (hC:∀w,Rd b s q d w→GV w→Calls prog 154 #[.pointer (some ⟨b,0,none⟩)] w fun e w'=>Res b s d r w e w'):
  Calls prog 88 #[.pointer (some ⟨b,0,none⟩)] w fun e w'=>Res b s d r w e w':=by
 have hb:=h.lt
 have HR:=hZ h
 have HG:=hZ hG
 have HK:=hZ hk
 have HC:=hZ hC
 clear h hG hk hC
 rcases r with⟨c,k⟩|⟨ts,rr⟩
 ·
  go_enter func88,ntmps88
  go_wp2_with (go_at_call 86;refine(qa2 b s p d _ (HR.out.alloc _) hp hs).mono ?_;rintro e w1 ⟨rfl,q',hpq',hq',hsk',hR0,hO0⟩;refine Hid.out ?_)
  obtain rfl:q'=q:=qd1 s q' q hq' (by omega) (hsk'.symm.trans HK.out)
  have hA:At b s q' d w w1:=⟨hR0,((Only.refl b w).alloc _).trans hO0,(Box.new w _ _ _ _ _ _).kept hO0 (by intro e;cases e;omega) (by simp),by have:=hO0.size;simp at this;omega⟩
  have HA:=hZ hA
  have h0':=hR0.c0
  have h1':=hR0.c1
  have hlt1:=hA.lt
  clear hsk' hR0 hO0 hA
  have hd:((q':Int)==(s.size:Int))=false:=by simp;omega
  refine hZ ?_
  go_wp2_with (go_at_call 87;refine(qah b s q' d _ HA.out.rd).mono ?_;rintro e w' ⟨rfl,n1,rfl⟩)
  go_quiet (fail)
  go_wp2_with (first|(go_at_call 153;refine(qa0 _ _).mono ?_;rintro e w' ⟨rfl,rfl⟩)|(go_at_call 154;refine(HC.out _ (by exact HA.out.rd.drewN _) (by exact HG.out.only (HA.out.only.drewN _) hb6 (by omega))).mono ?_;rintro e w2 ⟨hO,N,rfl,hN0,hN,p',hR1⟩;refine Hid.out ?_))
  have hz1:w1.heap.size≤w2.heap.size:=by have:=hO.size;simpa using this
  have HO1:=hZ ((HA.out.only.drewN _).trans hO)
  have HR1:=hZ hR1
  have hN9:w.heap.size+1≤N:=by simp at hN0;omega
  have HN:=hZ hN
  obtain⟨⟨y0,k0⟩,⟨y1,k1⟩,⟨y2,k2⟩,⟨y3,k3⟩,⟨y4,k4⟩,⟨y5,k5⟩,kf⟩:=(HA.out.box.drewN _).kept hO (by intro e;cases e;omega) (by simpa using hlt1)
  clear hO hN hN0 hR1
  refine hZ ?_
  go_wp2
  refine bodyPost_ret (v:=.tuple #[El.nil.v,.pointer (some ⟨N,0,none⟩)]) (by simp [results,results88,go_sem, *]) rfl ?_
  exact Res.err HO1.out (Nat.le_refl _) (by omega) (by omega) HN.out rfl rfl HR1.out hb _ _ _ _ _ _
 ·
  go_enter func88,ntmps88
  go_wp2_with (go_at_call 86;refine(qa2 b s p d _ (HR.out.alloc _) hp hs).mono ?_;rintro e w1 ⟨rfl,q',hpq',hq',hsk',hR0,hO0⟩;refine Hid.out ?_)
  obtain rfl:q'=q:=qd1 s q' q hq' (by omega) (hsk'.symm.trans HK.out)
  have hA:At b s q' d w w1:=⟨hR0,((Only.refl b w).alloc _).trans hO0,(Box.new w _ _ _ _ _ _).kept hO0 (by intro e;cases e;omega) (by simp),by have:=hO0.size;simp at this;omega⟩
  have HA:=hZ hA
  have h0':=hR0.c0
  have h1':=hR0.c1
  have hlt1:=hA.lt
  clear hsk' hR0 hO0 hA
  have hd:((q':Int)==(s.size:Int))=false:=by simp;omega
  refine hZ ?_
  go_wp2_with (go_at_call 87;refine(qah b s q' d _ HA.out.rd).mono ?_;rintro e w' ⟨rfl,n1,rfl⟩)
  go_quiet (fail)
  go_wp2_with (first|(go_at_call 153;refine(qa0 _ _).mono ?_;rintro e w' ⟨rfl,rfl⟩)|(go_at_call 154;refine(HC.out _ (by exact HA.out.rd.drewN _) (by exact HG.out.only (HA.out.only.drewN _) hb6 (by omega))).mono ?_;rintro e w2 ⟨hO,x,t,rfl,rfl,hrep,hrd⟩;refine Hid.out ?_))
  have hz1:w1.heap.size≤w2.heap.size:=by have:=hO.size;simpa using this
  have HO1:=hZ ((HA.out.only.drewN _).trans hO)
  have HR1:=hZ hrd
  have HRep:=hZ hrep
  obtain⟨⟨y0,k0⟩,⟨y1,k1⟩,⟨y2,k2⟩,⟨y3,k3⟩,⟨y4,k4⟩,⟨y5,k5⟩,kf⟩:=(HA.out.box.drewN _).kept hO (by intro e;cases e;omega) (by simpa using hlt1)
  clear hO hrep hrd
  obtain⟨xk,xn,xtr,xtx,xm,xa,xlen,xcap⟩:=x
  refine hZ ?_
  go_wp2
  refine bodyPost_ret (v:=.tuple #[El.v ⟨xk,xn,xtr,xtx,xm,xa,xlen,xcap⟩,.pointer none]) (by simp [results,results88,go_sem, *]) rfl ?_
  exact Res.ok HO1.out (Nat.le_refl _) (by simpa using hlt1) hb HRep.out HR1.out rfl _ _ _ _ _ _
theorem qpu (b:Nat) (s:ByteArray) (p q d:Nat) (w:World) (h:Rd b s p d w) (hp:p≤s.size) (hs:s.size≤1200) (hk:Px.skip false (L s p)=L s q) (hq:q=s.size):
  Calls prog 88 #[.pointer (some ⟨b,0,none⟩)] w fun e w'=>Res b s d (.inl (3,0)) w e w':=by
 have hb:=h.lt
 have HR:=hZ h
 have HK:=hZ hk
 clear h hk
 go_enter func88,ntmps88
 go_wp2_with (go_at_call 86;refine(qa2 b s p d _ (HR.out.alloc _) hp hs).mono ?_;rintro e w1 ⟨rfl,q',hpq',hq',hsk',hR0,hO0⟩;refine Hid.out ?_)
 obtain rfl:q'=q:=qd1 s q' q hq' (by omega) (hsk'.symm.trans HK.out)
 have hA:At b s q' d w w1:=⟨hR0,((Only.refl b w).alloc _).trans hO0,(Box.new w _ _ _ _ _ _).kept hO0 (by intro e;cases e;omega) (by simp),by have:=hO0.size;simp at this;omega⟩
 have HA:=hZ hA
 have h0':=hR0.c0
 have h1':=hR0.c1
 have hlt1:=hA.lt
 clear hsk' hR0 hO0 hA
 have hd:((q':Int)==(s.size:Int))=true:=by simp;omega
 have HQ:=hZ hq
 clear hq
 refine hZ ?_
 go_wp2_with (first|(go_at_call 87;refine(qah b s q' d _ HA.out.rd).mono ?_;rintro e w' ⟨rfl,n1,rfl⟩)|(go_at_call 147;refine(qbb _ _ _).mono ?_;rintro e w' ⟨N,rfl,hN,hN2,hbl⟩;refine Hid.out ?_))
 have hO2:Only b w w':=Only.of (HA.out.only.drewN _) hbl
 have HR9:=hZ ((HA.out.rd.drewN _).below hbl (by first|omega|(simp;done)|(simp;omega)))
 have hx:Box w.heap.size w':=(HA.out.box.drewN _).below hbl (by first|omega|(simp;done)|(simp;omega))
 have hsz:w.heap.size+1≤N:=by first|omega|(simp at hN;omega)
 obtain⟨⟨y0,k0⟩,⟨y1,k1⟩,⟨y2,k2⟩,⟨y3,k3⟩,⟨y4,k4⟩,⟨y5,k5⟩,kf⟩:=hx
 have HN2:=hZ hN2
 have HO2:=hZ hO2
 clear hN hN2 hbl hO2
 refine hZ ?_
 go_wp2
 refine bodyPost_ret (v:=.tuple #[El.nil.v,.pointer (some ⟨N,0,none⟩)]) (by simp [results,results88,go_sem, *]) rfl ?_
 exact Res.err HO2.out (Nat.le_refl _) (by omega) (by omega) HN2.out rfl (by have:=HQ.out;simp;omega) HR9.out (by omega) _ _ _ _ _ _
theorem qpv (b:Nat) (s:ByteArray) (p q d:Nat) (w:World) (h:Rd b s p d w) (hp:p≤s.size) (hs:s.size≤1200) (hk:Px.skip false (L s p)=L s q) (hlt:q<s.size)
  (c40:((s[q].toNat:Int)==40)=false) (c39:((s[q].toNat:Int)==39)=false) (c34:((s[q].toNat:Int)==34)=false) (c35:((s[q].toNat:Int)==35)=false) (hw:Px.wordB s[q]=false):
  Calls prog 88 #[.pointer (some ⟨b,0,none⟩)] w fun e w'=>Res b s d (.inl (2,s.size-q)) w e w':=by
 have hb:=h.lt
 have HR:=hZ h
 have HK:=hZ hk
 clear h hk
 go_enter func88,ntmps88
 go_wp2_with (go_at_call 86;refine(qa2 b s p d _ (HR.out.alloc _) hp hs).mono ?_;rintro e w1 ⟨rfl,q',hpq',hq',hsk',hR0,hO0⟩;refine Hid.out ?_)
 obtain rfl:q'=q:=qd1 s q' q hq' (by omega) (hsk'.symm.trans HK.out)
 have hA:At b s q' d w w1:=⟨hR0,((Only.refl b w).alloc _).trans hO0,(Box.new w _ _ _ _ _ _).kept hO0 (by intro e;cases e;omega) (by simp),by have:=hO0.size;simp at this;omega⟩
 have HA:=hZ hA
 have h0':=hR0.c0
 have h1':=hR0.c1
 have hlt1:=hA.lt
 clear hsk' hR0 hO0 hA
 have hd:((q':Int)==(s.size:Int))=false:=by simp;omega
 refine hZ ?_
 go_wp2_with (first|(go_at_call 87;refine(qah b s q' d _ HA.out.rd).mono ?_;rintro e w' ⟨rfl,n1,rfl⟩)|(go_at_call 153;refine(qa0 _ _).mono ?_;rintro e w' ⟨rfl,rfl⟩)|(go_at_call 147;refine(qbb _ _ _).mono ?_;rintro e w' ⟨N,rfl,hN,hN2,hbl⟩;refine Hid.out ?_))
 go_quiet (fail)
 go_wp2_with (first|(go_at_call 153;refine(qa0 _ _).mono ?_;rintro e w' ⟨rfl,rfl⟩)|(go_at_call 147;refine(qbb _ _ _).mono ?_;rintro e w' ⟨N,rfl,hN,hN2,hbl⟩;refine Hid.out ?_))
 have hO2:Only b w w':=Only.of (HA.out.only.drewN _) hbl
 have HR9:=hZ ((HA.out.rd.drewN _).below hbl (by first|omega|(simp;done)|(simp;omega)))
 have hx:Box w.heap.size w':=(HA.out.box.drewN _).below hbl (by first|omega|(simp;done)|(simp;omega))
 have hsz:w.heap.size+1≤N:=by first|omega|(simp at hN;omega)
 obtain⟨⟨y0,k0⟩,⟨y1,k1⟩,⟨y2,k2⟩,⟨y3,k3⟩,⟨y4,k4⟩,⟨y5,k5⟩,kf⟩:=hx
 have HN2:=hZ hN2
 have HO2:=hZ hO2
 clear hN hN2 hbl hO2
 refine hZ ?_
 go_wp2
 refine bodyPost_ret (v:=.tuple #[El.nil.v,.pointer (some ⟨N,0,none⟩)]) (by simp [results,results88,go_sem, *]) rfl ?_
 exact Res.err HO2.out (Nat.le_refl _) (by omega) (by omega) HN2.out rfl (by omega) HR9.out (by omega) _ _ _ _ _ _
theorem qpw:∀F:Nat,DatumSaid F:=by
 intro F
 induction F using Nat.strongRecOn with
 |ind F ih=>
  intro b s p d w h hp hs hd30 hG hb6 hF
  obtain⟨f,rfl⟩:∃f,F=f+1:=⟨F-1,by omega⟩
  obtain⟨q,hpq,hq,hk⟩:∃q,p≤q∧q≤s.size∧Px.skip false (L s p)=L s q:=by
   have hs1:=Px.skip_suf (L s p) false
   refine⟨s.size-(Px.skip false (L s p)).length,?_,by omega,(L_suf s p _ hs1).symm⟩
   have:=hs1.length_le
   rw [qb3]at this;omega
  by_cases hlt:q<s.size
  ·cases c40:((s[q].toNat:Int)==40)
   ·cases c39:((s[q].toNat:Int)==39)
    ·cases c34:((s[q].toNat:Int)==34)
     ·cases c35:((s[q].toNat:Int)==35)
      ·have n40:=beq_eq_false_iff_ne.1 c40
       have n39:=beq_eq_false_iff_ne.1 c39
       have n34:=beq_eq_false_iff_ne.1 c34
       have n35:=beq_eq_false_iff_ne.1 c35
       cases hw:Px.wordB s[q]
       ·rw [rdF_bad f d s p q hk hlt (by omega) (by omega) (by omega) (by omega) hw]
        exact qpv b s p q d w h hp hs hk hlt c40 c39 c34 c35 hw
       ·rw [qrm f d s p q hk hlt (by omega) (by omega) (by omega) (by omega) hw]
        exact qmx b s p q d _ w h hp hs hG hb6 hk hlt c40 c39 c34 c35 hw (fun w0 h1 h2=>qqi b s q d w0 h1 hlt hs hd30 h2 hb6)
      ·rw [qn7 f d s p q hk hlt (by have:=beq_iff_eq.1 c35;omega)]
       exact qjs b s p q d _ w h hp hs hG hb6 hk hlt c40 c39 c34 c35 (fun w0 h1 _=>qni b s q d w0 h1 hlt hs hd30)
     ·rw [rdF_str f d s p q hk hlt (by have:=beq_iff_eq.1 c34;omega)]
      exact qpt b s p q d _ w h hp hs hG hb6 hk hlt c40 c39 c34 (fun w0 h1 _=>qlg b s q d w0 h1 hlt hs hd30)
    ·have e39:s[q].toNat=39:=by have:=beq_iff_eq.1 c39;omega
     by_cases hd:d=30
     ·rw [qkf f d s p q hk hlt (.inr e39) hd]
      exact qez b s p q d _ w h hp hs hG hb6 hk hlt c40 c39 (fun w0 h1 _=>qga b s q d w0 h1 hlt hs hd)
     ·rw [qn8 f d s p q hk hlt e39 hd]
      exact qez b s p q d _ w h hp hs hG hb6 hk hlt c40 c39 (fun w0 h1 h2=>qi2 b s q d _ w0 h1 hlt hs (by omega) h2 hb6 (fun w2 h3 h4=>qln b s (q+1) (d+1) _ w2 h3 (by omega) h4 hb6 (fun w3 h5 h6=>ih f (by omega) b s (q+1) (d+1) w3 h5 (by omega) hs (by omega) h6 hb6 (by omega))))
   ·have e40:s[q].toNat=40:=by have:=beq_iff_eq.1 c40;omega
    by_cases hd:d=30
    ·rw [qkf f d s p q hk hlt (.inl e40) hd]
     exact qe0 b s p q d _ w h hp hs hG hb6 hk hlt c40 (fun w0 h1 _=>qgb b s q d w0 h1 hlt hs hd)
    ·rw [qrn f d s p q hk hlt e40 hd]
     exact qe0 b s p q d _ w h hp hs hG hb6 hk hlt c40 (fun w0 h1 h2=>qi3 b s q d _ w0 h1 hlt hs (by omega) h2 hb6 (fun w2 h3 h4=>qr3 f b s (q+1) (d+1) w2 h3 (by omega) hs (by omega) h4 hb6 (by omega) (fun F' hF'=>ih F' (by omega))))
  ·rw [rdF_end f d s p q hk (by omega)]
   exact qpu b s p q d w h hp hs hk (by omega)
end Rd
end
end Go.Proofs.YtldaocpojcfljaaGreatDoor
