import Derived.Test.YtldaocpojcfljaaGreatDoorD03
import Derived.Below
import Derived.Lib.Hide
import Derived.Shelf.Abstract
import Derived.StillTailTactics
import Derived.Deep.RegionHeld3
set_option maxRecDepth 100000
set_option maxHeartbeats 4000000
namespace Go.Proofs.YtldaocpojcfljaaGreatDoor
open Tryz hiding parts
section
namespace Rd
open Go.RowKit
theorem rdF_end(f d:Nat)(s:ByteArray)(p q:Nat)(hk:Px.skip false (L s p)=L s q)(h:s.size<=q):Py.rd (f+1) false d (L s p)=.inl (3,0):=by
 rw[Py.rd,hk,qgz s q h]
theorem qrn(f d:Nat)(s:ByteArray)(p q:Nat)(hk:Px.skip false (L s p)=L s q)(h:q<s.size)(hc:s[q].toNat=40)(hd:d≠30):Py.rd (f+1) false d (L s p)=listR (Py.rd f true (d+1) (L s (q+1))):=by
 rw[Py.rd,hk,L_lt s q h];simp only;rw[if_pos hc,if_neg hd];rcases Py.rd f true (d+1) (L s (q+1))with e|⟨xs,rr⟩ <;> rfl
theorem qkf(f d:Nat)(s:ByteArray)(p q:Nat)(hk:Px.skip false (L s p)=L s q)(h:q<s.size)(hc:s[q].toNat=40\/s[q].toNat=39)(hd:d=30):Py.rd (f+1) false d (L s p)=.inl (4,s.size-q):=by
 rw[Py.rd,hk,L_lt s q h];simp only;have e:(L s (q+1)).length+1=s.size-q:=by rw[qb3];omega
 rcases hc with hc|hc
 ·rw[if_pos hc,if_pos hd,e]
 ·rw[if_neg (by omega),if_pos hc,if_pos hd,e]
theorem qn8(f d:Nat)(s:ByteArray)(p q:Nat)(hk:Px.skip false (L s p)=L s q)(h:q<s.size)(hc:s[q].toNat=39)(hd:d≠30):Py.rd (f+1) false d (L s p)=quoteR (Py.rd f false (d+1) (L s (q+1))):=by
 rw[Py.rd,hk,L_lt s q h];simp only;rw[if_neg (by omega),if_pos hc,if_neg hd];rcases Py.rd f false (d+1) (L s (q+1))with e|⟨xs,rr⟩ <;> rfl
theorem rdF_str(f d:Nat)(s:ByteArray)(p q:Nat)(hk:Px.skip false (L s p)=L s q)(h:q<s.size)(hc:s[q].toNat=34):Py.rd (f+1) false d (L s p)=Py.str (L s (q+1)):=by
 rw[Py.rd,hk,L_lt s q h];simp only;rw[if_neg (by omega),if_neg (by omega),if_pos hc]
theorem qn7(f d:Nat)(s:ByteArray)(p q:Nat)(hk:Px.skip false (L s p)=L s q)(h:q<s.size)(hc:s[q].toNat=35):Py.rd (f+1) false d (L s p)=Py.truth (L s (q+1)):=by
 rw[Py.rd,hk,L_lt s q h];simp only;rw[if_neg (by omega),if_neg (by omega),if_neg (by omega),if_pos hc]
theorem qrm(f d:Nat)(s:ByteArray)(p q:Nat)(hk:Px.skip false (L s p)=L s q)(h:q<s.size)(h1:s[q].toNat≠40)(h2:s[q].toNat≠39)(h3:s[q].toNat≠34)(h4:s[q].toNat≠35)(hw:Px.wordB s[q]=true):Py.rd (f+1) false d (L s p)=Py.word (L s q):=by
 rw[Py.rd,hk,L_lt s q h];simp only;rw[if_neg h1,if_neg h2,if_neg h3,if_neg h4,if_pos hw]
theorem rdF_bad(f d:Nat)(s:ByteArray)(p q:Nat)(hk:Px.skip false (L s p)=L s q)(h:q<s.size)(h1:s[q].toNat≠40)(h2:s[q].toNat≠39)(h3:s[q].toNat≠34)(h4:s[q].toNat≠35)(hw:Px.wordB s[q]=false):Py.rd (f+1) false d (L s p)=.inl (2,s.size-q):=by
 rw[Py.rd,hk,L_lt s q h];simp only;rw[if_neg h1,if_neg h2,if_neg h3,if_neg h4,if_neg (by simp[hw])];have e:(L s (q+1)).length+1=s.size-q:=by rw[qb3];omega
 rw[e]
structure At (b:Nat) (s:ByteArray) (q d:Nat) (w w1:World):Prop where
 rd:Rd b s q d w1
 only:Only b w w1
 box:Box w.heap.size w1
 lt:w.heap.size<w1.heap.size
theorem qd1(s:ByteArray)(p q:Nat)(hp:p<=s.size)(hq:q<=s.size)(h:L s p=L s q):p=q:=by
 have h1:=congrArg List.length h;rw[qb3,qb3]at h1;omega
theorem qe0(b:Nat)(s:ByteArray)(p q d:Nat)(r:Py.R)(w:World)(h:Rd b s p d w)(hp:p<=s.size)(hs:s.size<=1200)(hG:GV w)(hb6:6<=b)(hk:Px.skip false (L s p)=L s q)(hlt:q<s.size)
  (c40:((s[q].toNat:Int)==40)=true)
  (hC:∀w,Rd b s q d w->GV w->Calls prog 148 #[.pointer (some ⟨b,0,none⟩),.func (.func 149) #[.pointer (some ⟨b,0,none⟩)] #[]] w fun e w'=>Res b s d r w e w'):
  Calls prog 88 #[.pointer (some ⟨b,0,none⟩)] w fun e w'=>Res b s d r w e w':=by
 have hb:=h.lt;have HR:=hZ h;have HG:=hZ hG;have HK:=hZ hk;have HC:=hZ hC;clear h hG hk hC;rcases r with⟨c,k⟩|⟨ts,rr⟩
 ·
  go_enter func88,ntmps88
  go_wp2_with (go_at_call 86;refine(qa2 b s p d _ (HR.out.alloc _) hp hs).mono ?_;rintro e w1 ⟨rfl,q',hpq',hq',hsk',hR0,hO0⟩;refine Hid.out ?_)
  obtain rfl:q'=q:=qd1 s q' q hq' (by omega) (hsk'.symm.trans HK.out);have hA:At b s q' d w w1:=⟨hR0,((Only.refl b w).alloc _).trans hO0,(Box.new w _ _ _ _ _ _).kept hO0 (by intro e;cases e;omega) (by simp),by have:=hO0.size;simp at this;omega⟩;have HA:=hZ hA;have h0':=hR0.c0;have h1':=hR0.c1;have hlt1:=hA.lt;clear hsk' hR0 hO0 hA;have hd:((q':Int)==(s.size:Int))=false:=by simp;omega
  refine hZ ?_;go_wp2_with (go_at_call 87;refine(qah b s q' d _ HA.out.rd).mono ?_;rintro e w' ⟨rfl,n1,rfl⟩)
  go_quiet (fail)
  go_wp2_with (first|(go_at_call 148;refine(HC.out _ (by exact HA.out.rd.drewN _) (by exact HG.out.only (HA.out.only.drewN _) hb6 (by omega))).mono ?_;rintro e w2 ⟨hO,N,rfl,hN0,hN,p',hR1⟩;refine Hid.out ?_))
  have hz1:w1.heap.size<=w2.heap.size:=by have:=hO.size;simpa using this
  have HO1:=hZ ((HA.out.only.drewN _).trans hO);have HR1:=hZ hR1;have hN9:w.heap.size+1<=N:=by simp at hN0;omega
  have HN:=hZ hN;obtain⟨⟨y0,k0⟩,⟨y1,k1⟩,⟨y2,k2⟩,⟨y3,k3⟩,⟨y4,k4⟩,⟨y5,k5⟩,kf⟩:=(HA.out.box.drewN _).kept hO (by intro e;cases e;omega) (by simpa using hlt1);clear hO hN hN0 hR1;refine hZ ?_;go_wp2;refine bodyPost_ret (v:=.tuple #[El.nil.v,.pointer (some ⟨N,0,none⟩)]) (by simp[results,results88,go_sem, *]) rfl ?_;exact Res.err HO1.out (Nat.le_refl _) (by omega) (by omega) HN.out rfl rfl HR1.out hb _ _ _ _ _ _
 ·
  go_enter func88,ntmps88
  go_wp2_with (go_at_call 86;refine(qa2 b s p d _ (HR.out.alloc _) hp hs).mono ?_;rintro e w1 ⟨rfl,q',hpq',hq',hsk',hR0,hO0⟩;refine Hid.out ?_)
  obtain rfl:q'=q:=qd1 s q' q hq' (by omega) (hsk'.symm.trans HK.out);have hA:At b s q' d w w1:=⟨hR0,((Only.refl b w).alloc _).trans hO0,(Box.new w _ _ _ _ _ _).kept hO0 (by intro e;cases e;omega) (by simp),by have:=hO0.size;simp at this;omega⟩;have HA:=hZ hA;have h0':=hR0.c0;have h1':=hR0.c1;have hlt1:=hA.lt;clear hsk' hR0 hO0 hA;have hd:((q':Int)==(s.size:Int))=false:=by simp;omega
  refine hZ ?_;go_wp2_with (go_at_call 87;refine(qah b s q' d _ HA.out.rd).mono ?_;rintro e w' ⟨rfl,n1,rfl⟩)
  go_quiet (fail)
  go_wp2_with (first|(go_at_call 148;refine(HC.out _ (by exact HA.out.rd.drewN _) (by exact HG.out.only (HA.out.only.drewN _) hb6 (by omega))).mono ?_;rintro e w2 ⟨hO,x,t,rfl,rfl,hrep,hrd⟩;refine Hid.out ?_))
  have hz1:w1.heap.size<=w2.heap.size:=by have:=hO.size;simpa using this
  have HO1:=hZ ((HA.out.only.drewN _).trans hO);have HR1:=hZ hrd;have HRep:=hZ hrep;obtain⟨⟨y0,k0⟩,⟨y1,k1⟩,⟨y2,k2⟩,⟨y3,k3⟩,⟨y4,k4⟩,⟨y5,k5⟩,kf⟩:=(HA.out.box.drewN _).kept hO (by intro e;cases e;omega) (by simpa using hlt1);clear hO hrep hrd;obtain⟨xk,xn,xtr,xtx,xm,xa,xlen,xcap⟩:=x;refine hZ ?_;go_wp2;refine bodyPost_ret (v:=.tuple #[El.v ⟨xk,xn,xtr,xtx,xm,xa,xlen,xcap⟩,.pointer none]) (by simp[results,results88,go_sem, *]) rfl ?_;exact Res.ok HO1.out (Nat.le_refl _) (by simpa using hlt1) hb HRep.out HR1.out rfl _ _ _ _ _ _
theorem qez(b:Nat)(s:ByteArray)(p q d:Nat)(r:Py.R)(w:World)(h:Rd b s p d w)(hp:p<=s.size)(hs:s.size<=1200)(hG:GV w)(hb6:6<=b)(hk:Px.skip false (L s p)=L s q)(hlt:q<s.size)
  (c40:((s[q].toNat:Int)==40)=false)(c39:((s[q].toNat:Int)==39)=true)
  (hC:∀w,Rd b s q d w->GV w->Calls prog 148 #[.pointer (some ⟨b,0,none⟩),.func (.func 150) #[.pointer (some ⟨b,0,none⟩)] #[]] w fun e w'=>Res b s d r w e w'):
  Calls prog 88 #[.pointer (some ⟨b,0,none⟩)] w fun e w'=>Res b s d r w e w':=by
 have hb:=h.lt;have HR:=hZ h;have HG:=hZ hG;have HK:=hZ hk;have HC:=hZ hC;clear h hG hk hC;rcases r with⟨c,k⟩|⟨ts,rr⟩
 ·
  go_enter func88,ntmps88
  go_wp2_with (go_at_call 86;refine(qa2 b s p d _ (HR.out.alloc _) hp hs).mono ?_;rintro e w1 ⟨rfl,q',hpq',hq',hsk',hR0,hO0⟩;refine Hid.out ?_)
  obtain rfl:q'=q:=qd1 s q' q hq' (by omega) (hsk'.symm.trans HK.out);have hA:At b s q' d w w1:=⟨hR0,((Only.refl b w).alloc _).trans hO0,(Box.new w _ _ _ _ _ _).kept hO0 (by intro e;cases e;omega) (by simp),by have:=hO0.size;simp at this;omega⟩;have HA:=hZ hA;have h0':=hR0.c0;have h1':=hR0.c1;have hlt1:=hA.lt;clear hsk' hR0 hO0 hA;have hd:((q':Int)==(s.size:Int))=false:=by simp;omega
  refine hZ ?_;go_wp2_with (go_at_call 87;refine(qah b s q' d _ HA.out.rd).mono ?_;rintro e w' ⟨rfl,n1,rfl⟩)
  go_quiet (fail)
  go_wp2_with (first|(go_at_call 148;refine(HC.out _ (by exact HA.out.rd.drewN _) (by exact HG.out.only (HA.out.only.drewN _) hb6 (by omega))).mono ?_;rintro e w2 ⟨hO,N,rfl,hN0,hN,p',hR1⟩;refine Hid.out ?_))
  have hz1:w1.heap.size<=w2.heap.size:=by have:=hO.size;simpa using this
  have HO1:=hZ ((HA.out.only.drewN _).trans hO);have HR1:=hZ hR1;have hN9:w.heap.size+1<=N:=by simp at hN0;omega
  have HN:=hZ hN;obtain⟨⟨y0,k0⟩,⟨y1,k1⟩,⟨y2,k2⟩,⟨y3,k3⟩,⟨y4,k4⟩,⟨y5,k5⟩,kf⟩:=(HA.out.box.drewN _).kept hO (by intro e;cases e;omega) (by simpa using hlt1);clear hO hN hN0 hR1;refine hZ ?_;go_wp2;refine bodyPost_ret (v:=.tuple #[El.nil.v,.pointer (some ⟨N,0,none⟩)]) (by simp[results,results88,go_sem, *]) rfl ?_;exact Res.err HO1.out (Nat.le_refl _) (by omega) (by omega) HN.out rfl rfl HR1.out hb _ _ _ _ _ _
 ·
  go_enter func88,ntmps88
  go_wp2_with (go_at_call 86;refine(qa2 b s p d _ (HR.out.alloc _) hp hs).mono ?_;rintro e w1 ⟨rfl,q',hpq',hq',hsk',hR0,hO0⟩;refine Hid.out ?_)
  obtain rfl:q'=q:=qd1 s q' q hq' (by omega) (hsk'.symm.trans HK.out);have hA:At b s q' d w w1:=⟨hR0,((Only.refl b w).alloc _).trans hO0,(Box.new w _ _ _ _ _ _).kept hO0 (by intro e;cases e;omega) (by simp),by have:=hO0.size;simp at this;omega⟩;have HA:=hZ hA;have h0':=hR0.c0;have h1':=hR0.c1;have hlt1:=hA.lt;clear hsk' hR0 hO0 hA;have hd:((q':Int)==(s.size:Int))=false:=by simp;omega
  refine hZ ?_;go_wp2_with (go_at_call 87;refine(qah b s q' d _ HA.out.rd).mono ?_;rintro e w' ⟨rfl,n1,rfl⟩)
  go_quiet (fail)
  go_wp2_with (first|(go_at_call 148;refine(HC.out _ (by exact HA.out.rd.drewN _) (by exact HG.out.only (HA.out.only.drewN _) hb6 (by omega))).mono ?_;rintro e w2 ⟨hO,x,t,rfl,rfl,hrep,hrd⟩;refine Hid.out ?_))
  have hz1:w1.heap.size<=w2.heap.size:=by have:=hO.size;simpa using this
  have HO1:=hZ ((HA.out.only.drewN _).trans hO);have HR1:=hZ hrd;have HRep:=hZ hrep;obtain⟨⟨y0,k0⟩,⟨y1,k1⟩,⟨y2,k2⟩,⟨y3,k3⟩,⟨y4,k4⟩,⟨y5,k5⟩,kf⟩:=(HA.out.box.drewN _).kept hO (by intro e;cases e;omega) (by simpa using hlt1);clear hO hrep hrd;obtain⟨xk,xn,xtr,xtx,xm,xa,xlen,xcap⟩:=x;refine hZ ?_;go_wp2;refine bodyPost_ret (v:=.tuple #[El.v ⟨xk,xn,xtr,xtx,xm,xa,xlen,xcap⟩,.pointer none]) (by simp[results,results88,go_sem, *]) rfl ?_;exact Res.ok HO1.out (Nat.le_refl _) (by simpa using hlt1) hb HRep.out HR1.out rfl _ _ _ _ _ _
theorem qpt(b:Nat)(s:ByteArray)(p q d:Nat)(r:Py.R)(w:World)(h:Rd b s p d w)(hp:p<=s.size)(hs:s.size<=1200)(hG:GV w)(hb6:6<=b)(hk:Px.skip false (L s p)=L s q)(hlt:q<s.size)
  (c40:((s[q].toNat:Int)==40)=false)(c39:((s[q].toNat:Int)==39)=false)(c34:((s[q].toNat:Int)==34)=true)
  (hC:∀w,Rd b s q d w->GV w->Calls prog 151 #[.pointer (some ⟨b,0,none⟩)] w fun e w'=>Res b s d r w e w'):
  Calls prog 88 #[.pointer (some ⟨b,0,none⟩)] w fun e w'=>Res b s d r w e w':=by
 have hb:=h.lt;have HR:=hZ h;have HG:=hZ hG;have HK:=hZ hk;have HC:=hZ hC;clear h hG hk hC;rcases r with⟨c,k⟩|⟨ts,rr⟩
 ·
  go_enter func88,ntmps88
  go_wp2_with (go_at_call 86;refine(qa2 b s p d _ (HR.out.alloc _) hp hs).mono ?_;rintro e w1 ⟨rfl,q',hpq',hq',hsk',hR0,hO0⟩;refine Hid.out ?_)
  obtain rfl:q'=q:=qd1 s q' q hq' (by omega) (hsk'.symm.trans HK.out);have hA:At b s q' d w w1:=⟨hR0,((Only.refl b w).alloc _).trans hO0,(Box.new w _ _ _ _ _ _).kept hO0 (by intro e;cases e;omega) (by simp),by have:=hO0.size;simp at this;omega⟩;have HA:=hZ hA;have h0':=hR0.c0;have h1':=hR0.c1;have hlt1:=hA.lt;clear hsk' hR0 hO0 hA;have hd:((q':Int)==(s.size:Int))=false:=by simp;omega
  refine hZ ?_;go_wp2_with (go_at_call 87;refine(qah b s q' d _ HA.out.rd).mono ?_;rintro e w' ⟨rfl,n1,rfl⟩)
  go_quiet (fail)
  go_wp2_with (first|(go_at_call 151;refine(HC.out _ (by exact HA.out.rd.drewN _) (by exact HG.out.only (HA.out.only.drewN _) hb6 (by omega))).mono ?_;rintro e w2 ⟨hO,N,rfl,hN0,hN,p',hR1⟩;refine Hid.out ?_))
  have hz1:w1.heap.size<=w2.heap.size:=by have:=hO.size;simpa using this
  have HO1:=hZ ((HA.out.only.drewN _).trans hO);have HR1:=hZ hR1;have hN9:w.heap.size+1<=N:=by simp at hN0;omega
  have HN:=hZ hN;obtain⟨⟨y0,k0⟩,⟨y1,k1⟩,⟨y2,k2⟩,⟨y3,k3⟩,⟨y4,k4⟩,⟨y5,k5⟩,kf⟩:=(HA.out.box.drewN _).kept hO (by intro e;cases e;omega) (by simpa using hlt1);clear hO hN hN0 hR1;refine hZ ?_;go_wp2;refine bodyPost_ret (v:=.tuple #[El.nil.v,.pointer (some ⟨N,0,none⟩)]) (by simp[results,results88,go_sem, *]) rfl ?_;exact Res.err HO1.out (Nat.le_refl _) (by omega) (by omega) HN.out rfl rfl HR1.out hb _ _ _ _ _ _
 ·
  go_enter func88,ntmps88
  go_wp2_with (go_at_call 86;refine(qa2 b s p d _ (HR.out.alloc _) hp hs).mono ?_;rintro e w1 ⟨rfl,q',hpq',hq',hsk',hR0,hO0⟩;refine Hid.out ?_)
  obtain rfl:q'=q:=qd1 s q' q hq' (by omega) (hsk'.symm.trans HK.out);have hA:At b s q' d w w1:=⟨hR0,((Only.refl b w).alloc _).trans hO0,(Box.new w _ _ _ _ _ _).kept hO0 (by intro e;cases e;omega) (by simp),by have:=hO0.size;simp at this;omega⟩;have HA:=hZ hA;have h0':=hR0.c0;have h1':=hR0.c1;have hlt1:=hA.lt;clear hsk' hR0 hO0 hA;have hd:((q':Int)==(s.size:Int))=false:=by simp;omega
  refine hZ ?_;go_wp2_with (go_at_call 87;refine(qah b s q' d _ HA.out.rd).mono ?_;rintro e w' ⟨rfl,n1,rfl⟩)
  go_quiet (fail)
  go_wp2_with (first|(go_at_call 151;refine(HC.out _ (by exact HA.out.rd.drewN _) (by exact HG.out.only (HA.out.only.drewN _) hb6 (by omega))).mono ?_;rintro e w2 ⟨hO,x,t,rfl,rfl,hrep,hrd⟩;refine Hid.out ?_))
  have hz1:w1.heap.size<=w2.heap.size:=by have:=hO.size;simpa using this
  have HO1:=hZ ((HA.out.only.drewN _).trans hO);have HR1:=hZ hrd;have HRep:=hZ hrep;obtain⟨⟨y0,k0⟩,⟨y1,k1⟩,⟨y2,k2⟩,⟨y3,k3⟩,⟨y4,k4⟩,⟨y5,k5⟩,kf⟩:=(HA.out.box.drewN _).kept hO (by intro e;cases e;omega) (by simpa using hlt1);clear hO hrep hrd;obtain⟨xk,xn,xtr,xtx,xm,xa,xlen,xcap⟩:=x;refine hZ ?_;go_wp2;refine bodyPost_ret (v:=.tuple #[El.v ⟨xk,xn,xtr,xtx,xm,xa,xlen,xcap⟩,.pointer none]) (by simp[results,results88,go_sem, *]) rfl ?_;exact Res.ok HO1.out (Nat.le_refl _) (by simpa using hlt1) hb HRep.out HR1.out rfl _ _ _ _ _ _
theorem qjs(b:Nat)(s:ByteArray)(p q d:Nat)(r:Py.R)(w:World)(h:Rd b s p d w)(hp:p<=s.size)(hs:s.size<=1200)(hG:GV w)(hb6:6<=b)(hk:Px.skip false (L s p)=L s q)(hlt:q<s.size)
  (c40:((s[q].toNat:Int)==40)=false)(c39:((s[q].toNat:Int)==39)=false)(c34:((s[q].toNat:Int)==34)=false)(c35:((s[q].toNat:Int)==35)=true)
  (hC:∀w,Rd b s q d w->GV w->Calls prog 152 #[.pointer (some ⟨b,0,none⟩)] w fun e w'=>Res b s d r w e w'):
  Calls prog 88 #[.pointer (some ⟨b,0,none⟩)] w fun e w'=>Res b s d r w e w':=by
 have hb:=h.lt;have HR:=hZ h;have HG:=hZ hG;have HK:=hZ hk;have HC:=hZ hC;clear h hG hk hC;rcases r with⟨c,k⟩|⟨ts,rr⟩
 ·
  go_enter func88,ntmps88
  go_wp2_with (go_at_call 86;refine(qa2 b s p d _ (HR.out.alloc _) hp hs).mono ?_;rintro e w1 ⟨rfl,q',hpq',hq',hsk',hR0,hO0⟩;refine Hid.out ?_)
  obtain rfl:q'=q:=qd1 s q' q hq' (by omega) (hsk'.symm.trans HK.out);have hA:At b s q' d w w1:=⟨hR0,((Only.refl b w).alloc _).trans hO0,(Box.new w _ _ _ _ _ _).kept hO0 (by intro e;cases e;omega) (by simp),by have:=hO0.size;simp at this;omega⟩;have HA:=hZ hA;have h0':=hR0.c0;have h1':=hR0.c1;have hlt1:=hA.lt;clear hsk' hR0 hO0 hA;have hd:((q':Int)==(s.size:Int))=false:=by simp;omega
  refine hZ ?_;go_wp2_with (go_at_call 87;refine(qah b s q' d _ HA.out.rd).mono ?_;rintro e w' ⟨rfl,n1,rfl⟩)
  go_quiet (fail)
  go_wp2_with (first|(go_at_call 152;refine(HC.out _ (by exact HA.out.rd.drewN _) (by exact HG.out.only (HA.out.only.drewN _) hb6 (by omega))).mono ?_;rintro e w2 ⟨hO,N,rfl,hN0,hN,p',hR1⟩;refine Hid.out ?_))
  have hz1:w1.heap.size<=w2.heap.size:=by have:=hO.size;simpa using this
  have HO1:=hZ ((HA.out.only.drewN _).trans hO);have HR1:=hZ hR1;have hN9:w.heap.size+1<=N:=by simp at hN0;omega
  have HN:=hZ hN;obtain⟨⟨y0,k0⟩,⟨y1,k1⟩,⟨y2,k2⟩,⟨y3,k3⟩,⟨y4,k4⟩,⟨y5,k5⟩,kf⟩:=(HA.out.box.drewN _).kept hO (by intro e;cases e;omega) (by simpa using hlt1);clear hO hN hN0 hR1;refine hZ ?_;go_wp2;refine bodyPost_ret (v:=.tuple #[El.nil.v,.pointer (some ⟨N,0,none⟩)]) (by simp[results,results88,go_sem, *]) rfl ?_;exact Res.err HO1.out (Nat.le_refl _) (by omega) (by omega) HN.out rfl rfl HR1.out hb _ _ _ _ _ _
 ·
  go_enter func88,ntmps88
  go_wp2_with (go_at_call 86;refine(qa2 b s p d _ (HR.out.alloc _) hp hs).mono ?_;rintro e w1 ⟨rfl,q',hpq',hq',hsk',hR0,hO0⟩;refine Hid.out ?_)
  obtain rfl:q'=q:=qd1 s q' q hq' (by omega) (hsk'.symm.trans HK.out);have hA:At b s q' d w w1:=⟨hR0,((Only.refl b w).alloc _).trans hO0,(Box.new w _ _ _ _ _ _).kept hO0 (by intro e;cases e;omega) (by simp),by have:=hO0.size;simp at this;omega⟩;have HA:=hZ hA;have h0':=hR0.c0;have h1':=hR0.c1;have hlt1:=hA.lt;clear hsk' hR0 hO0 hA;have hd:((q':Int)==(s.size:Int))=false:=by simp;omega
  refine hZ ?_;go_wp2_with (go_at_call 87;refine(qah b s q' d _ HA.out.rd).mono ?_;rintro e w' ⟨rfl,n1,rfl⟩)
  go_quiet (fail)
  go_wp2_with (first|(go_at_call 152;refine(HC.out _ (by exact HA.out.rd.drewN _) (by exact HG.out.only (HA.out.only.drewN _) hb6 (by omega))).mono ?_;rintro e w2 ⟨hO,x,t,rfl,rfl,hrep,hrd⟩;refine Hid.out ?_))
  have hz1:w1.heap.size<=w2.heap.size:=by have:=hO.size;simpa using this
  have HO1:=hZ ((HA.out.only.drewN _).trans hO);have HR1:=hZ hrd;have HRep:=hZ hrep;obtain⟨⟨y0,k0⟩,⟨y1,k1⟩,⟨y2,k2⟩,⟨y3,k3⟩,⟨y4,k4⟩,⟨y5,k5⟩,kf⟩:=(HA.out.box.drewN _).kept hO (by intro e;cases e;omega) (by simpa using hlt1);clear hO hrep hrd;obtain⟨xk,xn,xtr,xtx,xm,xa,xlen,xcap⟩:=x;refine hZ ?_;go_wp2;refine bodyPost_ret (v:=.tuple #[El.v ⟨xk,xn,xtr,xtx,xm,xa,xlen,xcap⟩,.pointer none]) (by simp[results,results88,go_sem, *]) rfl ?_;exact Res.ok HO1.out (Nat.le_refl _) (by simpa using hlt1) hb HRep.out HR1.out rfl _ _ _ _ _ _
theorem qmx(b:Nat)(s:ByteArray)(p q d:Nat)(r:Py.R)(w:World)(h:Rd b s p d w)(hp:p<=s.size)(hs:s.size<=1200)(hG:GV w)(hb6:6<=b)(hk:Px.skip false (L s p)=L s q)(hlt:q<s.size)
  (c40:((s[q].toNat:Int)==40)=false)(c39:((s[q].toNat:Int)==39)=false)(c34:((s[q].toNat:Int)==34)=false)(c35:((s[q].toNat:Int)==35)=false)(hw:Px.wordB s[q]=true)
  (hC:∀w,Rd b s q d w->GV w->Calls prog 154 #[.pointer (some ⟨b,0,none⟩)] w fun e w'=>Res b s d r w e w'):
  Calls prog 88 #[.pointer (some ⟨b,0,none⟩)] w fun e w'=>Res b s d r w e w':=by
 have hb:=h.lt;have HR:=hZ h;have HG:=hZ hG;have HK:=hZ hk;have HC:=hZ hC;clear h hG hk hC;rcases r with⟨c,k⟩|⟨ts,rr⟩
 ·
  go_enter func88,ntmps88
  go_wp2_with (go_at_call 86;refine(qa2 b s p d _ (HR.out.alloc _) hp hs).mono ?_;rintro e w1 ⟨rfl,q',hpq',hq',hsk',hR0,hO0⟩;refine Hid.out ?_)
  obtain rfl:q'=q:=qd1 s q' q hq' (by omega) (hsk'.symm.trans HK.out);have hA:At b s q' d w w1:=⟨hR0,((Only.refl b w).alloc _).trans hO0,(Box.new w _ _ _ _ _ _).kept hO0 (by intro e;cases e;omega) (by simp),by have:=hO0.size;simp at this;omega⟩;have HA:=hZ hA;have h0':=hR0.c0;have h1':=hR0.c1;have hlt1:=hA.lt;clear hsk' hR0 hO0 hA;have hd:((q':Int)==(s.size:Int))=false:=by simp;omega
  refine hZ ?_;go_wp2_with (go_at_call 87;refine(qah b s q' d _ HA.out.rd).mono ?_;rintro e w' ⟨rfl,n1,rfl⟩)
  go_quiet (fail)
  go_wp2_with (first|(go_at_call 153;refine(qa0 _ _).mono ?_;rintro e w' ⟨rfl,rfl⟩)|(go_at_call 154;refine(HC.out _ (by exact HA.out.rd.drewN _) (by exact HG.out.only (HA.out.only.drewN _) hb6 (by omega))).mono ?_;rintro e w2 ⟨hO,N,rfl,hN0,hN,p',hR1⟩;refine Hid.out ?_))
  have hz1:w1.heap.size<=w2.heap.size:=by have:=hO.size;simpa using this
  have HO1:=hZ ((HA.out.only.drewN _).trans hO);have HR1:=hZ hR1;have hN9:w.heap.size+1<=N:=by simp at hN0;omega
  have HN:=hZ hN;obtain⟨⟨y0,k0⟩,⟨y1,k1⟩,⟨y2,k2⟩,⟨y3,k3⟩,⟨y4,k4⟩,⟨y5,k5⟩,kf⟩:=(HA.out.box.drewN _).kept hO (by intro e;cases e;omega) (by simpa using hlt1);clear hO hN hN0 hR1;refine hZ ?_;go_wp2;refine bodyPost_ret (v:=.tuple #[El.nil.v,.pointer (some ⟨N,0,none⟩)]) (by simp[results,results88,go_sem, *]) rfl ?_;exact Res.err HO1.out (Nat.le_refl _) (by omega) (by omega) HN.out rfl rfl HR1.out hb _ _ _ _ _ _
 ·
  go_enter func88,ntmps88
  go_wp2_with (go_at_call 86;refine(qa2 b s p d _ (HR.out.alloc _) hp hs).mono ?_;rintro e w1 ⟨rfl,q',hpq',hq',hsk',hR0,hO0⟩;refine Hid.out ?_)
  obtain rfl:q'=q:=qd1 s q' q hq' (by omega) (hsk'.symm.trans HK.out);have hA:At b s q' d w w1:=⟨hR0,((Only.refl b w).alloc _).trans hO0,(Box.new w _ _ _ _ _ _).kept hO0 (by intro e;cases e;omega) (by simp),by have:=hO0.size;simp at this;omega⟩;have HA:=hZ hA;have h0':=hR0.c0;have h1':=hR0.c1;have hlt1:=hA.lt;clear hsk' hR0 hO0 hA;have hd:((q':Int)==(s.size:Int))=false:=by simp;omega
  refine hZ ?_;go_wp2_with (go_at_call 87;refine(qah b s q' d _ HA.out.rd).mono ?_;rintro e w' ⟨rfl,n1,rfl⟩)
  go_quiet (fail)
  go_wp2_with (first|(go_at_call 153;refine(qa0 _ _).mono ?_;rintro e w' ⟨rfl,rfl⟩)|(go_at_call 154;refine(HC.out _ (by exact HA.out.rd.drewN _) (by exact HG.out.only (HA.out.only.drewN _) hb6 (by omega))).mono ?_;rintro e w2 ⟨hO,x,t,rfl,rfl,hrep,hrd⟩;refine Hid.out ?_))
  have hz1:w1.heap.size<=w2.heap.size:=by have:=hO.size;simpa using this
  have HO1:=hZ ((HA.out.only.drewN _).trans hO);have HR1:=hZ hrd;have HRep:=hZ hrep;obtain⟨⟨y0,k0⟩,⟨y1,k1⟩,⟨y2,k2⟩,⟨y3,k3⟩,⟨y4,k4⟩,⟨y5,k5⟩,kf⟩:=(HA.out.box.drewN _).kept hO (by intro e;cases e;omega) (by simpa using hlt1);clear hO hrep hrd;obtain⟨xk,xn,xtr,xtx,xm,xa,xlen,xcap⟩:=x;refine hZ ?_;go_wp2;refine bodyPost_ret (v:=.tuple #[El.v ⟨xk,xn,xtr,xtx,xm,xa,xlen,xcap⟩,.pointer none]) (by simp[results,results88,go_sem, *]) rfl ?_;exact Res.ok HO1.out (Nat.le_refl _) (by simpa using hlt1) hb HRep.out HR1.out rfl _ _ _ _ _ _
theorem qpu(b:Nat)(s:ByteArray)(p q d:Nat)(w:World)(h:Rd b s p d w)(hp:p<=s.size)(hs:s.size<=1200)(hk:Px.skip false (L s p)=L s q)(hq:q=s.size):
  Calls prog 88 #[.pointer (some ⟨b,0,none⟩)] w fun e w'=>Res b s d (.inl (3,0)) w e w':=by
 have hb:=h.lt;have HR:=hZ h;have HK:=hZ hk;clear h hk;go_enter func88,ntmps88
 go_wp2_with (go_at_call 86;refine(qa2 b s p d _ (HR.out.alloc _) hp hs).mono ?_;rintro e w1 ⟨rfl,q',hpq',hq',hsk',hR0,hO0⟩;refine Hid.out ?_)
 obtain rfl:q'=q:=qd1 s q' q hq' (by omega) (hsk'.symm.trans HK.out);have hA:At b s q' d w w1:=⟨hR0,((Only.refl b w).alloc _).trans hO0,(Box.new w _ _ _ _ _ _).kept hO0 (by intro e;cases e;omega) (by simp),by have:=hO0.size;simp at this;omega⟩;have HA:=hZ hA;have h0':=hR0.c0;have h1':=hR0.c1;have hlt1:=hA.lt;clear hsk' hR0 hO0 hA;have hd:((q':Int)==(s.size:Int))=true:=by simp;omega
 have HQ:=hZ hq;clear hq;refine hZ ?_;go_wp2_with (first|(go_at_call 87;refine(qah b s q' d _ HA.out.rd).mono ?_;rintro e w' ⟨rfl,n1,rfl⟩)|(go_at_call 147;refine(qbb _ _ _).mono ?_;rintro e w' ⟨N,rfl,hN,hN2,hbl⟩;refine Hid.out ?_))
 have hO2:Only b w w':=Only.of (HA.out.only.drewN _) hbl;have HR9:=hZ ((HA.out.rd.drewN _).below hbl (by first|omega|(simp;done)|(simp;omega)));have hx:Box w.heap.size w':=(HA.out.box.drewN _).below hbl (by first|omega|(simp;done)|(simp;omega));have hsz:w.heap.size+1<=N:=by first|omega|(simp at hN;omega)
 obtain⟨⟨y0,k0⟩,⟨y1,k1⟩,⟨y2,k2⟩,⟨y3,k3⟩,⟨y4,k4⟩,⟨y5,k5⟩,kf⟩:=hx;have HN2:=hZ hN2;have HO2:=hZ hO2;clear hN hN2 hbl hO2;refine hZ ?_;go_wp2;refine bodyPost_ret (v:=.tuple #[El.nil.v,.pointer (some ⟨N,0,none⟩)]) (by simp[results,results88,go_sem, *]) rfl ?_;exact Res.err HO2.out (Nat.le_refl _) (by omega) (by omega) HN2.out rfl (by have:=HQ.out;simp;omega) HR9.out (by omega) _ _ _ _ _ _
theorem qpv(b:Nat)(s:ByteArray)(p q d:Nat)(w:World)(h:Rd b s p d w)(hp:p<=s.size)(hs:s.size<=1200)(hk:Px.skip false (L s p)=L s q)(hlt:q<s.size)
  (c40:((s[q].toNat:Int)==40)=false)(c39:((s[q].toNat:Int)==39)=false)(c34:((s[q].toNat:Int)==34)=false)(c35:((s[q].toNat:Int)==35)=false)(hw:Px.wordB s[q]=false):
  Calls prog 88 #[.pointer (some ⟨b,0,none⟩)] w fun e w'=>Res b s d (.inl (2,s.size-q)) w e w':=by
 have hb:=h.lt;have HR:=hZ h;have HK:=hZ hk;clear h hk;go_enter func88,ntmps88
 go_wp2_with (go_at_call 86;refine(qa2 b s p d _ (HR.out.alloc _) hp hs).mono ?_;rintro e w1 ⟨rfl,q',hpq',hq',hsk',hR0,hO0⟩;refine Hid.out ?_)
 obtain rfl:q'=q:=qd1 s q' q hq' (by omega) (hsk'.symm.trans HK.out);have hA:At b s q' d w w1:=⟨hR0,((Only.refl b w).alloc _).trans hO0,(Box.new w _ _ _ _ _ _).kept hO0 (by intro e;cases e;omega) (by simp),by have:=hO0.size;simp at this;omega⟩;have HA:=hZ hA;have h0':=hR0.c0;have h1':=hR0.c1;have hlt1:=hA.lt;clear hsk' hR0 hO0 hA;have hd:((q':Int)==(s.size:Int))=false:=by simp;omega
 refine hZ ?_;go_wp2_with (first|(go_at_call 87;refine(qah b s q' d _ HA.out.rd).mono ?_;rintro e w' ⟨rfl,n1,rfl⟩)|(go_at_call 153;refine(qa0 _ _).mono ?_;rintro e w' ⟨rfl,rfl⟩)|(go_at_call 147;refine(qbb _ _ _).mono ?_;rintro e w' ⟨N,rfl,hN,hN2,hbl⟩;refine Hid.out ?_))
 go_quiet (fail)
 go_wp2_with (first|(go_at_call 153;refine(qa0 _ _).mono ?_;rintro e w' ⟨rfl,rfl⟩)|(go_at_call 147;refine(qbb _ _ _).mono ?_;rintro e w' ⟨N,rfl,hN,hN2,hbl⟩;refine Hid.out ?_))
 have hO2:Only b w w':=Only.of (HA.out.only.drewN _) hbl;have HR9:=hZ ((HA.out.rd.drewN _).below hbl (by first|omega|(simp;done)|(simp;omega)));have hx:Box w.heap.size w':=(HA.out.box.drewN _).below hbl (by first|omega|(simp;done)|(simp;omega));have hsz:w.heap.size+1<=N:=by first|omega|(simp at hN;omega)
 obtain⟨⟨y0,k0⟩,⟨y1,k1⟩,⟨y2,k2⟩,⟨y3,k3⟩,⟨y4,k4⟩,⟨y5,k5⟩,kf⟩:=hx;have HN2:=hZ hN2;have HO2:=hZ hO2;clear hN hN2 hbl hO2;refine hZ ?_;go_wp2;refine bodyPost_ret (v:=.tuple #[El.nil.v,.pointer (some ⟨N,0,none⟩)]) (by simp[results,results88,go_sem, *]) rfl ?_;exact Res.err HO2.out (Nat.le_refl _) (by omega) (by omega) HN2.out rfl (by omega) HR9.out (by omega) _ _ _ _ _ _
theorem qpw:∀F:Nat,DatumSaid F:=by
 intro F;induction F using Nat.strongRecOn with
 |ind F ih=>
  intro b s p d w h hp hs hd30 hG hb6 hF;obtain⟨f,rfl⟩:∃f,F=f+1:=⟨F-1,by omega⟩;obtain⟨q,hpq,hq,hk⟩:∃q,p<=q/\q<=s.size/\Px.skip false (L s p)=L s q:=by
   have hs1:=Px.skip_suf (L s p) false;refine⟨s.size-(Px.skip false (L s p)).length,?_,by omega,(L_suf s p _ hs1).symm⟩;have:=hs1.length_le;rw[qb3]at this;omega
  by_cases hlt:q<s.size
  ·cases c40:((s[q].toNat:Int)==40)
   ·cases c39:((s[q].toNat:Int)==39)
    ·cases c34:((s[q].toNat:Int)==34)
     ·cases c35:((s[q].toNat:Int)==35)
      ·have n40:=beq_eq_false_iff_ne.1 c40;have n39:=beq_eq_false_iff_ne.1 c39;have n34:=beq_eq_false_iff_ne.1 c34;have n35:=beq_eq_false_iff_ne.1 c35;cases hw:Px.wordB s[q]
       ·rw[rdF_bad f d s p q hk hlt (by omega) (by omega) (by omega) (by omega) hw];exact qpv b s p q d w h hp hs hk hlt c40 c39 c34 c35 hw
       ·rw[qrm f d s p q hk hlt (by omega) (by omega) (by omega) (by omega) hw];exact qmx b s p q d _ w h hp hs hG hb6 hk hlt c40 c39 c34 c35 hw (fun w0 h1 h2=>qqi b s q d w0 h1 hlt hs hd30 h2 hb6)
      ·rw[qn7 f d s p q hk hlt (by have:=beq_iff_eq.1 c35;omega)];exact qjs b s p q d _ w h hp hs hG hb6 hk hlt c40 c39 c34 c35 (fun w0 h1 _=>qni b s q d w0 h1 hlt hs hd30)
     ·rw[rdF_str f d s p q hk hlt (by have:=beq_iff_eq.1 c34;omega)];exact qpt b s p q d _ w h hp hs hG hb6 hk hlt c40 c39 c34 (fun w0 h1 _=>qlg b s q d w0 h1 hlt hs hd30)
    ·have e39:s[q].toNat=39:=by have:=beq_iff_eq.1 c39;omega
     by_cases hd:d=30
     ·rw[qkf f d s p q hk hlt (.inr e39) hd];exact qez b s p q d _ w h hp hs hG hb6 hk hlt c40 c39 (fun w0 h1 _=>qga b s q d w0 h1 hlt hs hd)
     ·rw[qn8 f d s p q hk hlt e39 hd];exact qez b s p q d _ w h hp hs hG hb6 hk hlt c40 c39 (fun w0 h1 h2=>qi2 b s q d _ w0 h1 hlt hs (by omega) h2 hb6 (fun w2 h3 h4=>qln b s (q+1) (d+1) _ w2 h3 (by omega) h4 hb6 (fun w3 h5 h6=>ih f (by omega) b s (q+1) (d+1) w3 h5 (by omega) hs (by omega) h6 hb6 (by omega))))
   ·have e40:s[q].toNat=40:=by have:=beq_iff_eq.1 c40;omega
    by_cases hd:d=30
    ·rw[qkf f d s p q hk hlt (.inl e40) hd];exact qe0 b s p q d _ w h hp hs hG hb6 hk hlt c40 (fun w0 h1 _=>qgb b s q d w0 h1 hlt hs hd)
    ·rw[qrn f d s p q hk hlt e40 hd];exact qe0 b s p q d _ w h hp hs hG hb6 hk hlt c40 (fun w0 h1 h2=>qi3 b s q d _ w0 h1 hlt hs (by omega) h2 hb6 (fun w2 h3 h4=>qr3 f b s (q+1) (d+1) w2 h3 (by omega) hs (by omega) h4 hb6 (by omega) (fun F' hF'=>ih F' (by omega))))
  ·rw[rdF_end f d s p q hk (by omega)];exact qpu b s p q d w h hp hs hk (by omega)
end Rd
end
section
namespace Rd
open Go.RowKit
theorem top_end(f:Nat)(l:List UInt8)(h:l=[]):Py.topP (f+1) l=.inr ([],[]):=by subst h;rfl
theorem top_bad(f:Nat)(l:List UInt8)(hk:Px.skip false l=l)(hne:l≠[])(e:Nat×Nat)(h:Py.rd f false 0 l=.inl e):Py.topP (f+1) l=.inl e:=by
 rw[Py.topP,hk];cases l with
 |nil=>exact absurd rfl hne
 |cons c r=>simp only;rw[h]
theorem qj6(f:Nat)(l:List UInt8):Py.topP f (Px.skip false l)=Py.topP f l:=by
 cases f with
 |zero=>rfl
 |succ f=>rw[Py.topP,Py.topP,Px.skip_idem]
theorem qqr(f:Nat)(l:List UInt8)(hk:Px.skip false l=l)(hne:l≠[])(x:List Dt)(r1:List UInt8)(h:Py.rd f false 0 l=.inr (x,r1)):Py.topP (f+1) l=Py.preP (x.map (fun t=>(t,l.length))) (Py.topP f (Px.skip false r1)):=by
 rw[qj6,Py.topP,hk];cases l with
 |nil=>exact absurd rfl hne
 |cons c r=>
  simp only;rw[h];simp only;rcases Py.topP f r1 with e|⟨xs,rr⟩ <;> rfl
def Fe.cells(x:El×Int):List Value:=x.1.cells++[.int .i64 x.2]
theorem qof{w:World}{lo:Nat}{v:Value}{n:Nat}{xs:List Value}(h:w.ownsRow lo 136 7 v n xs):∃a cap,v=.slice a n cap:=by
 rcases h.2 with⟨h1,h2⟩|⟨g,cap,cur,h1,_⟩
 ·subst h2;exact⟨_,_,h1⟩
 ·exact⟨_,_,h1⟩
theorem qeh{w w':World}{lo b:Nat}{v:Value}{n:Nat}{xs:List Value}(h:w.ownsRow lo 136 7 v n xs)(hO:Only b w w')(hb:b<lo):w'.ownsRow lo 136 7 v n xs:=by
 refine h.kept hO ?_;cases hv:v.ownBlock with
 |none=>exact .inl rfl
 |some k=>right;intro e;cases e;have:=(h.lt _ hv).1;omega
theorem info136:(prog.info? 136).map (fun i=>(i.zero,i.size,i.bytes))=some (some (.agg #[.int .i64 0,.int .i64 0,.bool false,.string ⟨#[]⟩,.int .i64 0,.slice none 0 0,.int .i64 0]),7,80):=by kernel_rfl
theorem Mem.turn'{lo lo' m:Nat}{own:Nat->Prop}{w:World}{es:List El}{ts:List Dt}(h:Mem lo m own w es ts)(hl:lo'<=lo):Mem lo' m NoB w es ts:=
 ⟨h.len,fun i x u h1 h2=>Rep.turn hl (fun _ e=>False.elim e) (h.all i x u h1 h2)⟩
def ResT(s:ByteArray)(r:Sum (Nat×Nat) (List (Dt×Nat)×List UInt8))(w:World)(e:Ending)(w':World):Prop:=
 Below w.heap.size w w'/\
 match r with
 | .inl (c,k)=>∃N,e=.returned (.tuple #[.slice none 0 0,.pointer (some ⟨N,0,none⟩)])/\w.heap.size<=N/\w'.heap[N]? =some (.cells #[.int .i64 (c:Int),.int .i64 ((s.size-k:Nat):Int)] 126 (0,0))
 | .inr (ts,_)=>∃(es:List (El×Int)) (a:Option Addr) (cap:Nat),e=.returned (.tuple #[.slice a es.length cap,.pointer none])/\w'.ownsRow w.heap.size 136 7 (.slice a es.length cap) es.length (es.flatMap Fe.cells)/\Mem w.heap.size 32 NoB w' (es.map (·.1)) (ts.map (·.1))/\es.map (·.2)=ts.map (fun t=>((s.size-t.2:Nat):Int))/\es.length<=s.size
def TRel(F b:Nat)(s:ByteArray)(w:World)(mv:Value)(wr:World):Prop:=
 ∃(q f:Nat) (es:List (El×Int)) (ts:List (Dt×Nat)),q<=s.size/\Px.skip false (L s q)=L s q/\Rd b s q 0 wr/\Only b w wr/\
  wr.ownsRow (b+1) 136 7 mv es.length (es.flatMap Fe.cells)/\Mem (b+1) 32 (Bl mv) wr (es.map (·.1)) (ts.map (·.1))/\es.map (·.2)=ts.map (fun t=>((s.size-t.2:Nat):Int))/\es.length<=q/\2*(s.size-q)+2<=f/\
  Py.topP F (L s 0)=Py.preP ts (Py.topP f (L s q))
theorem text_any(s:ByteArray)(w:World)(hs:s.size<=1200)(hG:GV w)(hw:6<=w.heap.size):
  Calls prog 58 #[.string s] w fun e w'=>ResT s (Py.topP (2*s.size+2) (L s 0)) w e w':=by
 have HG:=hZ hG;clear hG;have hR:∀o:Obj,o=.cells #[.string s,.int .i64 0,.int .i64 0] 175 (0,0)->Rd w.heap.size s 0 0 (w.alloc o):=fun o ho=>by subst ho;exact heap_alloc_new w _
 have HRn:=hZ hR;clear hR;have h12:decide (1200<(s.size:Int))=false:=by simp;omega
 go_enter func58,ntmps58
 go_wp2_with (go_at_call 86;refine(qa2 w.heap.size s 0 0 _ (HRn.out _ rfl) (by omega) hs).mono ?_;rintro e w1 ⟨rfl,q0,hpq0,hq0,hsk0,hR0,hO0⟩;refine Hid.out ?_)
 have HR0:=hZ hR0;have HO0:=hZ (((Only.refl w.heap.size w).alloc _).trans hO0);have HSK0:=hZ hsk0;clear hR0 hO0 hsk0;refine hZ ?_;go_wp2;go_loopw [5] (TRel (2*s.size+2) w.heap.size s w) (fun _ wr=>s.size-posOf w.heap.size wr)
 case atStart=>exact⟨q0,2*s.size+2,[],[],hq0,by rw[<-HSK0.out,Px.skip_idem],HR0.out,HO0.out,World.ownsRow_nil _ _ _ _,Mem.nil _ _ _ _,rfl,by simp,by omega,by rw[<-HSK0.out,qj6,Py.preP_nil]⟩
 case round=>
  obtain⟨q,f,es,ts,hq,hsk,hR,hO,hown,hmem,hpl,hle,hfq,heq⟩:=hrel;obtain⟨f,rfl⟩:∃f',f=f'+1:=⟨f-1,by omega⟩;obtain⟨i0,hi,hz0',hz1',hz2'⟩:=info_parts info136;have HRq:=hZ hR;have HO:=hZ hO;have HOwn:=hZ hown;have HMem:=hZ hmem;have HEq:=hZ heq;have HSk:=hZ hsk;have HPl:=hZ hpl;have h1q:=hR.c1;have HPos:Hid (posOf w.heap.size wr=q):=hR.pos;have hbr:w.heap.size<wr.heap.size:=hR.lt;clear hR hO hmem heq hsk hown hpl;by_cases hlt:q<s.size
  ·have hd:((q:Int)==(s.size:Int))=false:=by simp;omega
   have hne:L s q≠[]:=by rw[L_lt s q hlt];simp
   have HNe:=hZ hne;have HDf:=hZ (qpw f w.heap.size s q 0);clear hne;cases hr:Py.rd f false 0 (L s q)with
   |inl ck=>
    obtain⟨c,k⟩:=ck;have HT:Hid (Py.topP (2*s.size+2) (L s 0)=.inl (c,k)):=by
     show _=_;rw[HEq.out,top_bad f _ HSk.out HNe.out (c,k) hr];rfl
    have HDe:Hid (∀w0,Rd w.heap.size s q 0 w0->GV w0->Calls prog 88 #[.pointer (some ⟨w.heap.size,0,none⟩)] w0 fun e w'=>Res w.heap.size s 0 (.inl (c,k)) w0 e w'):=by
     intro w0 h1 h2;have:=HDf.out w0 h1 hq hs (by omega) h2 hw (by omega);rw[hr]at this;exact this
    clear hr HDf;go_wp2_with (first|(go_at_call 87;refine(qah w.heap.size s q 0 _ HRq.out).mono ?_;rintro e w' ⟨rfl,n1,rfl⟩)|(go_at_call 88;refine(HDe.out _ (by exact HRq.out.drewN _) (by exact(HG.out.only (HO.out.drewN _) hw (by omega)))).mono ?_;rintro e w1 ⟨hO,N,rfl,hN0,hN,p',hR1⟩;refine Hid.out ?_))
    have hN9:w.heap.size<=N:=by simp at hN0;omega
    have HN:=hZ hN;have HO1:=hZ ((HO.out.drewN _).trans hO);clear hO hN hN0 hR1;refine hZ ?_;go_wp2;go_ret2
    rw[HT.out];exact⟨(HO1.out.alloc _).below (Nat.le_refl _) (Nat.le_refl _),N,rfl,hN9,by rw[Below.heap_alloc _ _ _ (Array.getElem?_eq_some_iff.1 HN.out).1];exact HN.out⟩
   |inr xr=>
    obtain⟨xs,rr⟩:=xr;obtain⟨hsuf,hlen,hone⟩:=Py.rd_short f false 0 (L s q) xs rr hr;obtain⟨t,rfl⟩:=hone rfl;have HT:=hZ (qqr f _ HSk.out HNe.out _ _ hr);have HDe:Hid (∀w0,Rd w.heap.size s q 0 w0->GV w0->Calls prog 88 #[.pointer (some ⟨w.heap.size,0,none⟩)] w0 fun e w'=>Res w.heap.size s 0 (.inr ([t],rr)) w0 e w'):=by
     intro w0 h1 h2;have:=HDf.out w0 h1 hq hs (by omega) h2 hw (by omega);rw[hr]at this;exact this
    have hLr:=L_suf s q rr hsuf;have HLr:=hZ hLr;rw[qb3]at hlen;clear hr HDf hsuf hLr hone;go_wp2_with (first|(go_at_call 87;refine(qah w.heap.size s q 0 _ HRq.out).mono ?_;rintro e w' ⟨rfl,n1,rfl⟩)|(go_at_call 88;refine(HDe.out _ (by exact HRq.out.drewN _) (by exact(HG.out.only (HO.out.drewN _) hw (by omega)))).mono ?_;rintro e w1 ⟨hO,x,t',ht,rfl,hrep,hrd⟩;refine Hid.out ?_))
    obtain rfl:t'=t:=(List.cons.inj ht).1.symm;clear ht;have hz1:wr.heap.size<=w1.heap.size:=by have:=hO.size;simpa using this
    have hOr:Only w.heap.size wr w1:=((Only.refl w.heap.size wr).drewN n1).trans hO;have HO1:=hZ (HO.out.trans hOr);have HR1:=hZ hrd;have hown1:=qeh HOwn.out hOr (by omega);have HMem1:=hZ (HMem.out.only hOr (by omega));have HRep:=hZ hrep;have HOwn1:=hZ hown1;have HV:Hid (∀k,u5.ownBlock=some k->k<wr.heap.size):=fun k hk=>(HOwn.out.lt k hk).2
    clear hO hOr hrd hrep hown1 HOwn HMem HDe;obtain⟨xk,xn,xtr,xtx,xm,xa,xlen,xcap⟩:=x;refine hZ ?_;go_wp2_with (at_builtin;refine wpList_append_lies _ rfl _ _ 121 rfl (w.heap.size+1) 136 i0 (.agg #[.int .i64 0,.int .i64 0,.bool false,.string ⟨#[]⟩,.int .i64 0,.slice none 0 0,.int .i64 0]) 7 80 underlying121 hi hz0' hz1' hz2' rfl (by decide) _ _ _ rfl ((HOwn1.out.alloc _).alloc _) ⟨w1.heap.size+1,0,none⟩ 1 1 [.int .i64 xk,.int .i64 xn,.bool xtr,.string xtx,.int .i64 xm,.slice xa xlen xcap,.int .i64 q] rfl rfl ?c1 ?c2 (by decide) ?c3 ?c4 ?c5 (w1.heap.size+1+1) ?c6 ?_)
    case c1=>exact World.news_of_block (cs:=#[.int .i64 xk,.int .i64 xn,.bool xtr,.string xtx,.int .i64 xm,.slice xa xlen xcap,.int .i64 q]) (new2 _ _ _)
    case c2=>intro u hu;simp at hu;rcases hu with rfl|rfl|rfl|rfl|rfl|rfl|rfl <;> rfl
    case c3=>unfold maxLen;omega
    case c4=>omega
    case c5=>simp;omega
    case c6=>simp
    intro g cap w3 hown3 hgrow3 hat3 hlt3;refine Hid.out ?_;have HO3:=hZ (((HO1.out.alloc _).alloc _).newO hgrow3 (fun k h=>by have:=(HOwn1.out.lt k h).1;omega));have HR3:=hZ (((HR1.out.alloc _).alloc _).kept hgrow3 (by intro e;have:=(HOwn1.out.lt _ e.symm).1;omega));have hga:=World.grownBy_alloc w1 (Obj.cells #[Value.int IntKind.i64 xk,Value.int IntKind.i64 xn,Value.bool xtr,Value.string xtx,Value.int IntKind.i64 xm,Value.slice xa xlen xcap] 134) none;have hgb:=World.grownBy_alloc (w1.alloc (Obj.cells #[Value.int IntKind.i64 xk,Value.int IntKind.i64 xn,Value.bool xtr,Value.string xtx,Value.int IntKind.i64 xm,Value.slice xa xlen xcap] 134)) (Obj.cells #[Value.int IntKind.i64 xk,Value.int IntKind.i64 xn,Value.bool xtr,Value.string xtx,Value.int IntKind.i64 xm,Value.slice xa xlen xcap,Value.int IntKind.i64 q] 136) none;have HMem3:=hZ (Mem.grow (sl:=.slice (some ⟨g,0,none⟩) (es.length+1) cap) (x:=⟨xk,xn,xtr,xtx,xm,xa,xlen,xcap⟩) (lo2:=wr.heap.size) ((HMem1.out.kept hga (fun g h=>by cases h)).kept hgb (fun g h=>by cases h)) hgrow3 hat3 (by simp) rfl (Rep.kept hgb (fun g h=>by cases h) (Rep.kept hga (fun g h=>by cases h) HRep.out)) (by omega) HV.out);have HOwn3:=hZ hown3;have HX4:Hid (List.flatMap Fe.cells es++[Value.int IntKind.i64 xk,Value.int IntKind.i64 xn,Value.bool xtr,Value.string xtx,Value.int IntKind.i64 xm,Value.slice xa xlen xcap,Value.int IntKind.i64 q]=List.flatMap Fe.cells (es++[(⟨xk,xn,xtr,xtx,xm,xa,xlen,xcap⟩,(q:Int))])):=by
     show _=_;simp[Fe.cells,El.cells]
    clear hown3 hgrow3 hat3 hlt3 hga hgb HOwn1 HMem1 HR1 HO1 HRep HV;refine hZ ?_;go_wp2_with (go_at_call 86;refine(qa2 w.heap.size s (s.size-rr.length) 0 _ HR3.out (by omega) hs).mono ?_;rintro e w4 ⟨rfl,q2,hq21,hq22,hsk2,hR4,hO4⟩;refine Hid.out ?_)
    have HO4:=hZ (HO3.out.trans hO4);have HR4:=hZ hR4;have HOwn4:=hZ (qeh HOwn3.out hO4 (by omega));have HMem4:=hZ (HMem3.out.only hO4 (by omega));have HSk2:=hZ hsk2;have HPos4:Hid (posOf w.heap.size w4=q2):=hR4.pos;clear hR4 hO4 hsk2;refine hZ ?_;go_wp2;go_roundw
    case rel=>
     refine⟨q2,f,es++[(⟨xk,xn,xtr,xtx,xm,xa,xlen,xcap⟩,(q:Int))],ts++[(t',(L s q).length)],hq22,by rw[<-HSk2.out,Px.skip_idem],HR4.out,HO4.out,?_,?_,?_,by simp;omega,by omega,?_⟩
     ·rw[<-HX4.out];simpa using HOwn4.out
     ·simpa using HMem4.out
     ·rw[List.map_append,List.map_append,HPl.out];simp only[List.map_cons,List.map_nil,qb3];congr 3;omega
     ·rw[HEq.out,HT.out,Py.preP_pre,<-HSk2.out,HLr.out];rfl
    case measure=>
     have e1:=HPos.out;have e2:=HPos4.out;rw[e1,e2];omega
  ·have hd:((q:Int)==(s.size:Int))=true:=by simp;omega
   have HT:Hid (Py.topP (2*s.size+2) (L s 0)=.inr (ts,[])):=by
    show _=_;rw[HEq.out,top_end f _ (qgz s q (by omega))];simp[Py.preP]
   obtain⟨a,cap,rfl⟩:=qof HOwn.out;go_wp2_with (go_at_call 87;refine(qah w.heap.size s q 0 _ HRq.out).mono ?_;rintro e w' ⟨rfl,n1,rfl⟩)
   go_ret2
   rw[HT.out];exact⟨(HO.out.drewN _).below (Nat.le_refl _) (Nat.le_refl _),es,a,cap,rfl,qdj (qeh HOwn.out ((Only.refl w.heap.size wr).drewN n1) (by omega)) (Nat.le_succ _),(HMem.out.only ((Only.refl w.heap.size wr).drewN n1) (by omega)).turn' (Nat.le_succ _),HPl.out,by omega⟩
end Rd
end
section
open Go.RowKit Go.Shelf
def Mt(b:Nat)(t mo out:Int)(w:World):Prop:=w.heap[b]? =some (.cells #[.int .i64 t,.int .i64 mo,.int .i64 out] 164 (0,0))
theorem Mt.c0{b:Nat}{t mo out:Int}{w:World}(h:Mt b t mo out w):w.cell? ⟨b,0,none⟩=some (.int .i64 t):=by unfold Mt at h;simp[World.cell?,h]
theorem Mt.c1{b:Nat}{t mo out:Int}{w:World}(h:Mt b t mo out w):w.cell? ⟨b,1,none⟩=some (.int .i64 mo):=by unfold Mt at h;simp[World.cell?,h]
theorem Mt.c2{b:Nat}{t mo out:Int}{w:World}(h:Mt b t mo out w):w.cell? ⟨b,2,none⟩=some (.int .i64 out):=by unfold Mt at h;simp[World.cell?,h]
theorem Mt.fz{b:Nat}{t mo out:Int}{w:World}(h:Mt b t mo out w)(o:Nat):w.frozen? ⟨b,o,none⟩=false:=by unfold Mt at h;simp[World.frozen?,h]
theorem Mt.lt{b:Nat}{t mo out:Int}{w:World}(h:Mt b t mo out w):b<w.heap.size:=(Array.getElem?_eq_some_iff.1 h).1
abbrev stopV(vd:Int):Value:=.iface 166 (.agg #[.int .i64 vd,.string ⟨#[]⟩])
theorem qba(b:Nat)(t mo out n:Int)(w:World)(h:Mt b t mo out w)(h0:0<=t)(h1:t+n<=mo)(hn:0<=n)(hm:mo<=1000000):
  Calls prog 200 #[.pointer (some ⟨b,0,none⟩),.int .i64 n] w fun e w'=>e=.returned (.tuple #[])/\∃k,w'=(w.setCell ⟨b,0,none⟩ (.int .i64 (t+n))).drewN k:=by
 have c0:=h.c0;have c1:=h.c1;have hf:=h.fz 0;have HM:=hZ h;clear h;have hq:¬(mo-t<n):=by omega
 go_enter func200,ntmps200
 go_wp2;go_quiet (fail)
 go_wp2;go_end0;exact⟨rfl,nq,rfl⟩
theorem qbq{B:Nat}{a b:World}(h:Below B a b)(n:Nat):Below B a (b.drewN n):=⟨h.os,h.tape,h.output,h.size,h.block⟩
structure Lk (W w:World):Prop where
 heap:w.heap=W.heap
 tape:w.tape=W.tape
 os:w.os=W.os
 output:w.output=W.output
abbrev stopP(v:Value):List PanicEntry:=[{v:=v,recovered:=false}]
theorem qc6(n:Int)(w:World):Calls prog 131 #[.int .i64 n] w fun e w'=>e=.returned (.agg #[.int .i64 n,.string ⟨#[]⟩])/\∃o,w'=w.alloc o:=by
 go_enter func131,ntmps131
 go_wp2;refine bodyPost_ret (v:=.agg #[.int .i64 n,.string ⟨#[]⟩]) (by simp[results,results131,go_sem, *]) rfl ?_;exact⟨rfl,_,rfl⟩
theorem qa1(b:Nat)(t mo out n:Int)(w:World)(h:Mt b t mo out w)(h0:0<=t)(h1:mo<t+n)(_hn:0<=n)(ht:t<=mo)(hm:mo<=1000000):
  Calls prog 200 #[.pointer (some ⟨b,0,none⟩),.int .i64 n] w fun e w'=>e=.panicked (stopP (stopV out))/\Below w.heap.size (w.setCell ⟨b,0,none⟩ (.int .i64 mo)) w':=by
 have c0:=h.c0;have c1:=h.c1;have c2:=h.c2;have hf:=h.fz 0;have HM:=hZ h;clear h;have hq:mo-t<n:=by omega
 go_enter func200,ntmps200
 go_wp2;go_quiet (fail)
 go_wp2_with (go_at_call 131;refine(qc6 _ _).mono ?_;rintro e w2 ⟨rfl,o,rfl⟩)
 exact⟨rfl,rfl,((qbq (Below.refl w.heap.size _) nq)).alloc (by simp) _⟩
theorem qbi(n:Int)(w:World):Calls prog 273 #[.bool true,.int .i64 n] w fun e w'=>e=.returned (.tuple #[])/\w'=w:=by
 go_enter func273,ntmps273
 go_wp2;go_end0;exact⟨rfl,rfl⟩
theorem qbh(n:Int)(w:World):Calls prog 273 #[.bool false,.int .i64 n] w fun e w'=>e=.panicked (stopP (stopV n))/\∃o,w'=w.alloc o:=by
 go_enter func273,ntmps273
 go_wp2_with (go_at_call 131;refine(qc6 _ _).mono ?_;rintro e w2 ⟨rfl,o,rfl⟩)
 exact⟨rfl,rfl,o,rfl⟩
theorem qa6{w:World}(n:Nat)(p:Addr):(w.drewN n).cell? p=w.cell? p:=rfl
theorem qag{w:World}{a p:Addr}{v:Value}(h:p.block≠a.block):(w.setCell a v).cell? p=w.cell? p:=
 World.cell?_of_block (w:=w) (Below.heap_setCell _ _ _ _ h)
theorem qac{w:World}{b o:Nat}{v:Value}(h:w.cell? ⟨b,o,none⟩=some v):b<w.heap.size:=by
 rcases Nat.lt_or_ge b w.heap.size with h'|h'
 ·exact h'
 ·rw[World.cell?]at h;simp[Array.getElem?_eq_none h']at h
theorem qad{w:World}{b o:Nat}(h:b<w.heap.size)(o0:Obj):(w.alloc o0).cell? ⟨b,o,none⟩=w.cell? ⟨b,o,none⟩:=World.cell?_of_block (w:=w) (Below.heap_alloc _ _ _ h)
theorem qau{w:World}{b o:Nat}(h:b<w.heap.size)(o0 o1:Obj):((w.alloc o0).alloc o1).cell? ⟨b,o,none⟩=w.cell? ⟨b,o,none⟩:=(qad (by simp;omega) _).trans (qad h _)
theorem qbp{w:World}{b o:Nat}(h:b<w.heap.size)(o0 o1 o2:Obj):(((w.alloc o0).alloc o1).alloc o2).cell? ⟨b,o,none⟩=w.cell? ⟨b,o,none⟩:=(qad (by simp;omega) _).trans (qau h _ _)
theorem qjx{w:World}{b o:Nat}(h:b<w.heap.size)(o0 o1 o2 o3:Obj):((((w.alloc o0).alloc o1).alloc o2).alloc o3).cell? ⟨b,o,none⟩=w.cell? ⟨b,o,none⟩:=(qad (by simp;omega) _).trans (qbp h _ _ _)
theorem qjw{w:World}{b o:Nat}(h:b<w.heap.size)(o0 o1 o2 o3 o4:Obj):(((((w.alloc o0).alloc o1).alloc o2).alloc o3).alloc o4).cell? ⟨b,o,none⟩=w.cell? ⟨b,o,none⟩:=(qad (by simp;omega) _).trans (qjx h _ _ _ _)
theorem qqy(mb sb pm pc k:Nat)(t mo:Int)(cp:Array Value)(pf:Option Addr)(ku:Nat)(cu:Array Value)(w:World)(Q:Ending->World->Prop)
  (eg:∀args w,(callFunc k args).run prog w=.ok (.enter k args) w)
  (hQ:∀e w,Q e w->(∃v,e=.returned v)\/(∃ps,e=.panicked ps))
  (h1:w.cell? ⟨pm,0,none⟩=some (.pointer (some ⟨mb,0,none⟩)))
  (h2:w.cell? ⟨mb,0,none⟩=some (.pointer (some ⟨sb,0,none⟩)))
  (h3:w.cell? ⟨pc,0,none⟩=some (.func (.func k) #[] cp))
  (hM:Mt sb t mo 10 w)(h0:0<=t)(ht:t+1<=mo)(hm:mo<=1000000)(hne:pc≠sb)
  (hK:∀w',Lk (w.setCell ⟨sb,0,none⟩ (.int .i64 (t+1))) w'->Calls prog k (#[.pointer pf,.func (.func ku) #[] cu]++cp) w' Q):
  Calls prog 376 #[.pointer pf,.func (.func ku) #[] cu,.pointer (some ⟨pm,0,none⟩),.pointer (some ⟨pc,0,none⟩)] w Q:=by
 have HK:=hZ hK;have HQ:=hZ hQ;have k3:∀n,((w.setCell ⟨sb,0,none⟩ (.int .i64 (t+1))).drewN n).cell? ⟨pc,0,none⟩=some (.func (.func k) #[] cp):=fun n=>by
  rw[qa6,qag hne];exact h3
 have HT:=hZ (qba sb t mo 10 1 w hM h0 ht (by omega) hm);clear hK hQ hM;go_enter func376,ntmps376
 go_wp2_with (go_at_call 200;refine HT.out.mono ?_;rintro e w2 ⟨rfl,n,rfl⟩)
 go_wp2_with (go_at_fn k;refine(HK.out _ (by exact⟨rfl,rfl,rfl,rfl⟩)).mono ?_;intro e w2 hq)
 all_goals first|exact hq|exact⟨rfl,hq⟩|(rcases HQ.out _ _ hq with⟨v,h⟩|⟨ps,h⟩ <;> cases h)|trace_state
theorem seq1(p2 p3:Nat)(pf:Option Addr)(ku:Nat)(cu:Array Value)(k:Nat)(cp:Array Value)(w:World)(Q:Ending->World->Prop)
  (eg:∀args w,(callFunc k args).run prog w=.ok (.enter k args) w)
  (hQ:∀e w,Q e w->(∃v,e=.returned v)\/(∃ps,e=.panicked ps))
  (h2:w.cell? ⟨p2,0,none⟩=some (.func (.func k) #[] cp))
  (hK:∀w',Lk ((w.alloc (.cells #[.pointer pf] 378)).alloc (.cells #[.func (.func ku) #[] cu] 295)) w'->Calls prog k (#[.pointer pf,.func (.func 385) #[] #[.pointer (some ⟨p3,0,none⟩),.pointer (some ⟨w.heap.size,0,none⟩),.pointer (some ⟨w.heap.size+1,0,none⟩)]]++cp) w' Q):
  Calls prog 384 #[.pointer pf,.func (.func ku) #[] cu,.pointer (some ⟨p2,0,none⟩),.pointer (some ⟨p3,0,none⟩)] w Q:=by
 have HK:=hZ hK;have HQ:=hZ hQ;have h2_1:∀o0:Obj,(w.alloc o0).cell? ⟨p2,0,none⟩=some (.func (.func k) #[] cp):=fun o0=>by
  rw[<-h2];exact qad (qac h2) o0
 have h2_2:∀o0 o1:Obj,((w.alloc o0).alloc o1).cell? ⟨p2,0,none⟩=some (.func (.func k) #[] cp):=fun o0 o1=>by
  rw[<-h2];exact qau (qac h2) o0 o1
 clear hK hQ;go_enter func384,ntmps384
 go_wp2_with (go_at_fn k;refine(HK.out _ (by exact⟨rfl,rfl,rfl,rfl⟩)).mono ?_;intro e w2 hq)
 all_goals first|exact hq|exact⟨rfl,hq⟩|(rcases HQ.out _ _ hq with⟨v,h⟩|⟨ps,h⟩ <;> cases h)
theorem seq11(v:Value)(p1 p2 p3:Nat)(pf:Option Addr)(ku:Nat)(cu:Array Value)(k:Nat)(cp:Array Value)(w:World)(Q:Ending->World->Prop)
  (eg:∀args w,(callFunc k args).run prog w=.ok (.enter k args) w)
  (hQ:∀e w,Q e w->(∃v,e=.returned v)\/(∃ps,e=.panicked ps))
  (h1:w.cell? ⟨p1,0,none⟩=some (.func (.func k) #[] cp))
  (h2:w.cell? ⟨p2,0,none⟩=some (.pointer pf))
  (h3:w.cell? ⟨p3,0,none⟩=some (.func (.func ku) #[] cu))
  (hK:∀w',Lk w w'->Calls prog k (#[.pointer pf,.func (.func ku) #[] cu]++cp) w' Q):
  Calls prog 385 #[v,.pointer (some ⟨p1,0,none⟩),.pointer (some ⟨p2,0,none⟩),.pointer (some ⟨p3,0,none⟩)] w Q:=by
 have HK:=hZ hK;have HQ:=hZ hQ;clear hK hQ;go_enter func385,ntmps385
 go_wp2_with (go_at_fn k;refine(HK.out _ (by exact⟨rfl,rfl,rfl,rfl⟩)).mono ?_;intro e w2 hq)
 all_goals first|exact hq|exact⟨rfl,hq⟩|(rcases HQ.out _ _ hq with⟨v,h⟩|⟨ps,h⟩ <;> cases h)
theorem if1(p2 p3 p4:Nat)(pf:Option Addr)(ku:Nat)(cu:Array Value)(k:Nat)(cp:Array Value)(w:World)(Q:Ending->World->Prop)
  (eg:∀args w,(callFunc k args).run prog w=.ok (.enter k args) w)
  (hQ:∀e w,Q e w->(∃v,e=.returned v)\/(∃ps,e=.panicked ps))
  (h2:w.cell? ⟨p2,0,none⟩=some (.func (.func k) #[] cp))
  (hK:∀w',Lk ((w.alloc (.cells #[.pointer pf] 378)).alloc (.cells #[.func (.func ku) #[] cu] 295)) w'->Calls prog k (#[.pointer pf,.func (.func 399) #[] #[.pointer (some ⟨p3,0,none⟩),.pointer (some ⟨w.heap.size,0,none⟩),.pointer (some ⟨w.heap.size+1,0,none⟩),.pointer (some ⟨p4,0,none⟩)]]++cp) w' Q):
  Calls prog 398 #[.pointer pf,.func (.func ku) #[] cu,.pointer (some ⟨p2,0,none⟩),.pointer (some ⟨p3,0,none⟩),.pointer (some ⟨p4,0,none⟩)] w Q:=by
 have HK:=hZ hK;have HQ:=hZ hQ;have h2_1:∀o0:Obj,(w.alloc o0).cell? ⟨p2,0,none⟩=some (.func (.func k) #[] cp):=fun o0=>by
  rw[<-h2];exact qad (qac h2) o0
 have h2_2:∀o0 o1:Obj,((w.alloc o0).alloc o1).cell? ⟨p2,0,none⟩=some (.func (.func k) #[] cp):=fun o0 o1=>by
  rw[<-h2];exact qau (qac h2) o0 o1
 clear hK hQ;go_enter func398,ntmps398
 go_wp2_with (go_at_fn k;refine(HK.out _ (by exact⟨rfl,rfl,rfl,rfl⟩)).mono ?_;intro e w2 hq)
 all_goals first|exact hq|exact⟨rfl,hq⟩|(rcases HQ.out _ _ hq with⟨v,h⟩|⟨ps,h⟩ <;> cases h)
theorem set1(p2 p3:Nat)(pf:Option Addr)(ku:Nat)(cu:Array Value)(k:Nat)(cp:Array Value)(w:World)(Q:Ending->World->Prop)
  (eg:∀args w,(callFunc k args).run prog w=.ok (.enter k args) w)
  (hQ:∀e w,Q e w->(∃v,e=.returned v)\/(∃ps,e=.panicked ps))
  (h2:w.cell? ⟨p2,0,none⟩=some (.func (.func k) #[] cp))
  (hK:∀w',Lk ((w.alloc (.cells #[.pointer pf] 378)).alloc (.cells #[.func (.func ku) #[] cu] 295)) w'->Calls prog k (#[.pointer pf,.func (.func 356) #[] #[.pointer (some ⟨p3,0,none⟩),.pointer (some ⟨w.heap.size,0,none⟩),.pointer (some ⟨w.heap.size+1,0,none⟩)]]++cp) w' Q):
  Calls prog 355 #[.pointer pf,.func (.func ku) #[] cu,.pointer (some ⟨p2,0,none⟩),.pointer (some ⟨p3,0,none⟩)] w Q:=by
 have HK:=hZ hK;have HQ:=hZ hQ;have h2_1:∀o0:Obj,(w.alloc o0).cell? ⟨p2,0,none⟩=some (.func (.func k) #[] cp):=fun o0=>by
  rw[<-h2];exact qad (qac h2) o0
 have h2_2:∀o0 o1:Obj,((w.alloc o0).alloc o1).cell? ⟨p2,0,none⟩=some (.func (.func k) #[] cp):=fun o0 o1=>by
  rw[<-h2];exact qau (qac h2) o0 o1
 clear hK hQ;go_enter func355,ntmps355
 go_wp2_with (go_at_fn k;refine(HK.out _ (by exact⟨rfl,rfl,rfl,rfl⟩)).mono ?_;intro e w2 hq)
 all_goals first|exact hq|exact⟨rfl,hq⟩|(rcases HQ.out _ _ hq with⟨v,h⟩|⟨ps,h⟩ <;> cases h)
end
section
open Go.RowKit Go.Shelf
theorem qsx(d tx ty:Nat)(vx vy:Value)(h:tx≠ty)(w:World):(Op.equalIn (d+1) 116 (.iface tx vx) (.iface ty vy)).run prog w=.ok false w:=by
 simp[Op.equalIn,run_underlying underlying116,h]
theorem qaw(tx ty:Nat)(vx vy:Value)(h:tx≠ty)(w:World):(binOp .eql 116 (.iface tx vx) (.iface ty vy)).run prog w=.ok (.bool false) w:=by
 have e':(Op.equal 116 (.iface tx vx) (.iface ty vy)).run prog w=.ok false w:=qsx 9999 tx ty vx vy h w;simp[binOp,e']
theorem qb2(tx:Nat)(vx vy:Value)(r:Bool)(w w':World)(h:∀d,(Op.equalIn (d+1+1) 116 (.iface tx vx) (.iface tx vy)).run prog w=.ok r w'):(binOp .eql 116 (.iface tx vx) (.iface tx vy)).run prog w=.ok (.bool r) w':=by
 have e':(Op.equal 116 (.iface tx vx) (.iface tx vy)).run prog w=.ok r w':=h 9998;simp[binOp,e']
theorem cmp180:Tryz.t180.comparable=true:=by kernel_rfl
theorem cmp181:Tryz.t181.comparable=true:=by kernel_rfl
theorem cmp182:Tryz.t182.comparable=true:=by kernel_rfl
theorem cmp183:Tryz.t183.comparable=true:=by kernel_rfl
theorem cmp186:Tryz.t186.comparable=true:=by kernel_rfl
theorem cmp379:Tryz.t379.comparable=true:=by kernel_rfl
theorem cmp246:Tryz.t246.comparable=true:=by kernel_rfl
theorem cmp281:Tryz.t281.comparable=true:=by kernel_rfl
theorem cmp285:Tryz.t285.comparable=true:=by kernel_rfl
theorem cmp322:Tryz.t322.comparable=true:=by kernel_rfl
theorem qst(a b:Int)(w:World):(binOp .eql 116 (.iface 180 (.int .i64 a)) (.iface 180 (.int .i64 b))).run prog w=.ok (.bool (a==b)) w:=
 qb2 180 _ _ _ w w fun d=>by simp[Op.equalIn,run_underlying underlying116,run_underlying underlying180,cmp180]
theorem qdd(a b:Bool)(w:World):(binOp .eql 116 (.iface 181 (.bool a)) (.iface 181 (.bool b))).run prog w=.ok (.bool (a==b)) w:=
 qb2 181 _ _ _ w w fun d=>by simp[Op.equalIn,run_underlying underlying116,run_underlying underlying181,cmp181]
theorem qss(a b:ByteArray)(w:World):(binOp .eql 116 (.iface 182 (.string a)) (.iface 182 (.string b))).run prog w=.ok (.bool (a==b)) w:=
 qb2 182 _ _ _ w w fun d=>by simp[Op.equalIn,run_underlying underlying116,run_underlying underlying182,cmp182]
theorem qsr(a b:ByteArray)(w:World):(binOp .eql 116 (.iface 183 (.string a)) (.iface 183 (.string b))).run prog w=.ok (.bool (a==b)) w:=
 qb2 183 _ _ _ w w fun d=>by simp[Op.equalIn,run_underlying underlying116,run_underlying underlying183,cmp183]
theorem qkv(w:World):(binOp .eql 116 (.iface 186 (.agg #[])) (.iface 186 (.agg #[]))).run prog w=.ok (.bool true) w:=
 qb2 186 _ _ _ w w fun d=>by simp[Op.equalIn,run_underlying underlying116,run_underlying underlying186,cmp186]
theorem qpe(w:World):(binOp .eql 116 (.iface 379 (.agg #[])) (.iface 379 (.agg #[]))).run prog w=.ok (.bool true) w:=
 qb2 379 _ _ _ w w fun d=>by simp[Op.equalIn,run_underlying underlying116,run_underlying underlying379,cmp379]
end
section
open Go.RowKit Go.Shelf
theorem is180(v:Value)(w:World):(Instr.typeAssert (.iface 180 v) 116 180 true).run prog w=.ok (.tuple #[v,.bool true]) w:=by kernel_rfl
theorem qbx(t:Nat)(v:Value)(h:t≠180)(w:World):(Instr.typeAssert (.iface t v) 116 180 true).run prog w=.ok (.tuple #[.int .i64 0,.bool false]) w:=by
 simp[Instr.typeAssert,run_underlying underlying180,h,go_sem]
theorem is181(v:Value)(w:World):(Instr.typeAssert (.iface 181 v) 116 181 true).run prog w=.ok (.tuple #[v,.bool true]) w:=by kernel_rfl
theorem qcf(t:Nat)(v:Value)(h:t≠181)(w:World):(Instr.typeAssert (.iface t v) 116 181 true).run prog w=.ok (.tuple #[.bool false,.bool false]) w:=by
 simp[Instr.typeAssert,run_underlying underlying181,h,go_sem]
theorem is182(v:Value)(w:World):(Instr.typeAssert (.iface 182 v) 116 182 true).run prog w=.ok (.tuple #[v,.bool true]) w:=by kernel_rfl
theorem qce(t:Nat)(v:Value)(h:t≠182)(w:World):(Instr.typeAssert (.iface t v) 116 182 true).run prog w=.ok (.tuple #[.string ⟨#[]⟩,.bool false]) w:=by
 simp[Instr.typeAssert,run_underlying underlying182,h,go_sem]
theorem is183(v:Value)(w:World):(Instr.typeAssert (.iface 183 v) 116 183 true).run prog w=.ok (.tuple #[v,.bool true]) w:=by kernel_rfl
theorem qcl(t:Nat)(v:Value)(h:t≠183)(w:World):(Instr.typeAssert (.iface t v) 116 183 true).run prog w=.ok (.tuple #[.string ⟨#[]⟩,.bool false]) w:=by
 simp[Instr.typeAssert,run_underlying underlying183,h,go_sem]
theorem is186(v:Value)(w:World):(Instr.typeAssert (.iface 186 v) 116 186 true).run prog w=.ok (.tuple #[v,.bool true]) w:=by kernel_rfl
theorem qc0(t:Nat)(v:Value)(h:t≠186)(w:World):(Instr.typeAssert (.iface t v) 116 186 true).run prog w=.ok (.tuple #[.agg #[],.bool false]) w:=by
 simp[Instr.typeAssert,run_underlying underlying186,h,go_sem]
theorem qgj(v:Value)(w:World):(Instr.typeAssert (.iface 246 v) 116 246 true).run prog w=.ok (.tuple #[v,.bool true]) w:=by kernel_rfl
theorem qcd(t:Nat)(v:Value)(h:t≠246)(w:World):(Instr.typeAssert (.iface t v) 116 246 true).run prog w=.ok (.tuple #[.pointer none,.bool false]) w:=by
 simp[Instr.typeAssert,run_underlying underlying246,h,go_sem]
theorem qsd(v:Value)(w:World):(Instr.typeAssert (.iface 281 v) 116 281 true).run prog w=.ok (.tuple #[v,.bool true]) w:=by kernel_rfl
theorem qcz(t:Nat)(v:Value)(h:t≠281)(w:World):(Instr.typeAssert (.iface t v) 116 281 true).run prog w=.ok (.tuple #[.pointer none,.bool false]) w:=by
 simp[Instr.typeAssert,run_underlying underlying281,h,go_sem]
theorem is285(v:Value)(w:World):(Instr.typeAssert (.iface 285 v) 116 285 true).run prog w=.ok (.tuple #[v,.bool true]) w:=by kernel_rfl
theorem qjj(t:Nat)(v:Value)(h:t≠285)(w:World):(Instr.typeAssert (.iface t v) 116 285 true).run prog w=.ok (.tuple #[.pointer none,.bool false]) w:=by
 simp[Instr.typeAssert,run_underlying underlying285,h,go_sem]
theorem is322(v:Value)(w:World):(Instr.typeAssert (.iface 322 v) 116 322 true).run prog w=.ok (.tuple #[v,.bool true]) w:=by kernel_rfl
theorem isnt322(t:Nat)(v:Value)(h:t≠322)(w:World):(Instr.typeAssert (.iface t v) 116 322 true).run prog w=.ok (.tuple #[.pointer none,.bool false]) w:=by
 simp[Instr.typeAssert,run_underlying underlying322,h,go_sem]
end
section
open Go.RowKit Go.Shelf
theorem qme(p1 p2 p3 p4:Nat)(pf:Option Addr)(ku:Nat)(cu:Array Value)(k:Nat)(cp:Array Value)(w:World)(Q:Ending->World->Prop)
  (eg:∀args w,(callFunc k args).run prog w=.ok (.enter k args) w)
  (hQ:∀e w,Q e w->(∃v,e=.returned v)\/(∃ps,e=.panicked ps))
  (h1:w.cell? ⟨p1,0,none⟩=some (.func (.func k) #[] cp))
  (h2:w.cell? ⟨p2,0,none⟩=some (.pointer pf))
  (h3:w.cell? ⟨p3,0,none⟩=some (.func (.func ku) #[] cu))
  (hK:∀w',Lk w w'->Calls prog k (#[.pointer pf,.func (.func ku) #[] cu]++cp) w' Q):
  Calls prog 399 #[.iface 181 (.bool false),.pointer (some ⟨p1,0,none⟩),.pointer (some ⟨p2,0,none⟩),.pointer (some ⟨p3,0,none⟩),.pointer (some ⟨p4,0,none⟩)] w Q:=by
 have HK:=hZ hK;have HQ:=hZ hQ;have he:∀w,(binOp BinOp.eql 116 (.iface 181 (.bool false)) (.iface 181 (.bool false))).run prog w=.ok (.bool true) w:=fun w=>qdd _ _ w
 clear hK hQ;go_enter func399,ntmps399
 go_wp2_with (go_at_fn k;refine(HK.out _ (by exact⟨rfl,rfl,rfl,rfl⟩)).mono ?_;intro e w2 hq)
 all_goals first|exact hq|exact⟨rfl,hq⟩|(rcases HQ.out _ _ hq with⟨v,h⟩|⟨ps,h⟩ <;> cases h)
theorem qo4(p1 p2 p3 p4:Nat)(pf:Option Addr)(ku:Nat)(cu:Array Value)(k:Nat)(cp:Array Value)(w:World)(Q:Ending->World->Prop)
  (eg:∀args w,(callFunc k args).run prog w=.ok (.enter k args) w)
  (hQ:∀e w,Q e w->(∃v,e=.returned v)\/(∃ps,e=.panicked ps))
  (h4:w.cell? ⟨p4,0,none⟩=some (.func (.func k) #[] cp))
  (h2:w.cell? ⟨p2,0,none⟩=some (.pointer pf))
  (h3:w.cell? ⟨p3,0,none⟩=some (.func (.func ku) #[] cu))
  (hK:∀w',Lk w w'->Calls prog k (#[.pointer pf,.func (.func ku) #[] cu]++cp) w' Q):
  Calls prog 399 #[.iface 181 (.bool true),.pointer (some ⟨p1,0,none⟩),.pointer (some ⟨p2,0,none⟩),.pointer (some ⟨p3,0,none⟩),.pointer (some ⟨p4,0,none⟩)] w Q:=by
 have HK:=hZ hK;have HQ:=hZ hQ;have he:∀w,(binOp BinOp.eql 116 (.iface 181 (.bool true)) (.iface 181 (.bool false))).run prog w=.ok (.bool false) w:=fun w=>qdd _ _ w
 clear hK hQ;go_enter func399,ntmps399
 go_wp2_with (go_at_fn k;refine(HK.out _ (by exact⟨rfl,rfl,rfl,rfl⟩)).mono ?_;intro e w2 hq)
 all_goals first|exact hq|exact⟨rfl,hq⟩|(rcases HQ.out _ _ hq with⟨v,h⟩|⟨ps,h⟩ <;> cases h)
theorem qo5(ty:Nat)(x:Value)(p1 p2 p3 p4:Nat)(pf:Option Addr)(ku:Nat)(cu:Array Value)(k:Nat)(cp:Array Value)(w:World)(Q:Ending->World->Prop)
  (eg:∀args w,(callFunc k args).run prog w=.ok (.enter k args) w)
  (hQ:∀e w,Q e w->(∃v,e=.returned v)\/(∃ps,e=.panicked ps))
  (h4:w.cell? ⟨p4,0,none⟩=some (.func (.func k) #[] cp))
  (h2:w.cell? ⟨p2,0,none⟩=some (.pointer pf))
  (h3:w.cell? ⟨p3,0,none⟩=some (.func (.func ku) #[] cu))
  (hty:ty≠181)
  (hK:∀w',Lk w w'->Calls prog k (#[.pointer pf,.func (.func ku) #[] cu]++cp) w' Q):
  Calls prog 399 #[.iface ty x,.pointer (some ⟨p1,0,none⟩),.pointer (some ⟨p2,0,none⟩),.pointer (some ⟨p3,0,none⟩),.pointer (some ⟨p4,0,none⟩)] w Q:=by
 have HK:=hZ hK;have HQ:=hZ hQ;have he:∀w,(binOp BinOp.eql 116 (.iface ty x) (.iface 181 (.bool false))).run prog w=.ok (.bool false) w:=fun w=>qaw _ _ _ _ hty w
 clear hK hQ;go_enter func399,ntmps399
 go_wp2_with (go_at_fn k;refine(HK.out _ (by exact⟨rfl,rfl,rfl,rfl⟩)).mono ?_;intro e w2 hq)
 all_goals first|exact hq|exact⟨rfl,hq⟩|(rcases HQ.out _ _ hq with⟨v,h⟩|⟨ps,h⟩ <;> cases h)
theorem qnp(mb sb pm pc:Nat)(t:Int)(pf:Option Addr)(ku:Nat)(cu:Array Value)(w:World)
  (h1:w.cell? ⟨pm,0,none⟩=some (.pointer (some ⟨mb,0,none⟩)))
  (h2:w.cell? ⟨mb,0,none⟩=some (.pointer (some ⟨sb,0,none⟩)))
  (hM:Mt sb t t 10 w)(h0:0<=t)(hm:t<=1000000):
  Calls prog 376 #[.pointer pf,.func (.func ku) #[] cu,.pointer (some ⟨pm,0,none⟩),.pointer (some ⟨pc,0,none⟩)] w fun e w'=>e=.panicked (stopP (stopV 10))/\Below w.heap.size (w.setCell ⟨sb,0,none⟩ (.int .i64 t)) w':=by
 have HT:=hZ (qa1 sb t t 10 1 w hM h0 (by omega) (by omega) (by omega) hm);clear hM;go_enter func376,ntmps376
 go_wp2_with (go_at_call 200;refine HT.out.mono ?_;rintro e w2 ⟨rfl,hb⟩)
 exact⟨rfl,rfl,hb⟩
theorem set11(p1 p2 p3 ks:Nat)(cs:Array Value)(v:Value)(pf:Option Addr)(ku:Nat)(cu:Array Value)(w:World)(Q:Ending->World->Prop)
  (eg:∀args w,(callFunc ku args).run prog w=.ok (.enter ku args) w)
  (es:∀args w,(callFunc ks args).run prog w=.ok (.enter ks args) w)
  (hQ:∀e w,Q e w->(∃v,e=.returned v)\/(∃ps,e=.panicked ps))
  (h1:w.cell? ⟨p1,0,none⟩=some (.func (.func ks) #[] cs))
  (h2:w.cell? ⟨p2,0,none⟩=some (.pointer pf))
  (hS:Calls prog ks (#[.pointer pf,v]++cs) w fun e w1=>(e=.returned (.tuple #[])/\w1.cell? ⟨p3,0,none⟩=some (.func (.func ku) #[] cu)/\Calls prog ku (#[.iface 379 (.agg #[])]++cu) w1 Q)\/((∃ps,e=.panicked ps)/\Q e w1)):
  Calls prog 356 #[v,.pointer (some ⟨p1,0,none⟩),.pointer (some ⟨p2,0,none⟩),.pointer (some ⟨p3,0,none⟩)] w Q:=by
 have HS:=hZ hS;have HQ:=hZ hQ;clear hS hQ;go_enter func356,ntmps356
 go_wp2_with (go_at_fn ks;refine HS.out.mono ?_;rintro e w1 (⟨rfl,h3,hk⟩|⟨⟨ps,rfl⟩,hq⟩))
 ·have HK:=hZ hk;clear hk;go_wp2_with (go_at_fn ku;refine HK.out.mono ?_;intro e w2 hq)
  all_goals first|exact hq|exact⟨rfl,hq⟩|(rcases HQ.out _ _ hq with⟨v,h⟩|⟨ps,h⟩ <;> cases h)
 ·exact⟨rfl,hq⟩
theorem app1(p2 p3 mb g o n cap:Nat)(pf:Option Addr)(ku:Nat)(cu:Array Value)(w:World)(Q:Ending->World->Prop)
  (hQ:∀e w,Q e w->(∃v,e=.returned v)\/(∃ps,e=.panicked ps))
  (h2:w.cell? ⟨p2,0,none⟩=some (.pointer (some ⟨mb,0,none⟩)))
  (h3:w.cell? ⟨p3,0,none⟩=some (.slice (some ⟨g,o,none⟩) n cap))
  (hK:∀w',Lk (w.alloc (.cells #[.func (.func ku) #[] cu] 295)) w'->Calls prog 371 (#[.pointer (some ⟨mb,0,none⟩),.slice (some ⟨g,o,none⟩) n cap,.pointer pf,.pointer none,.func (.func 372) #[] #[.pointer (some ⟨p2,0,none⟩),.pointer (some ⟨w.heap.size,0,none⟩)]]) w' Q):
  Calls prog 370 #[.pointer pf,.func (.func ku) #[] cu,.pointer (some ⟨p2,0,none⟩),.pointer (some ⟨p3,0,none⟩)] w Q:=by
 have HK:=hZ hK;have HQ:=hZ hQ;have h2_1:∀o0:Obj,(w.alloc o0).cell? ⟨p2,0,none⟩=some (.pointer (some ⟨mb,0,none⟩)):=fun o0=>by
  rw[<-h2];exact qad (qac h2) o0
 have h3_1:∀o0:Obj,(w.alloc o0).cell? ⟨p3,0,none⟩=some (.slice (some ⟨g,o,none⟩) n cap):=fun o0=>by
  rw[<-h3];exact qad (qac h3) o0
 clear hK hQ;go_enter func370,ntmps370
 go_wp2_with (go_at_call 371;refine(HK.out _ (by exact⟨rfl,rfl,rfl,rfl⟩)).mono ?_;intro e w2 hq)
 all_goals first|exact hq|exact⟨rfl,hq⟩|(rcases HQ.out _ _ hq with⟨v,h⟩|⟨ps,h⟩ <;> cases h)
end
end Go.Proofs.YtldaocpojcfljaaGreatDoor
