import Derived.Test.YtldaocpojcfljaaGreatDoorD02
import Derived.Deep.RegionWith
import Derived.Deep.AppendLies
set_option maxRecDepth 100000
set_option maxHeartbeats 4000000
namespace Go.Proofs.YtldaocpojcfljaaGreatDoor
open Tryz hiding parts
section
namespace Rd
open Go.RowKit
theorem qb4(M:Nat):∀(l:List UInt8) (acc:Nat),l.all Px.digB=true->(∃u,Lib.parseUintM M acc l=.ok u)\/Lib.parseUintM M acc l=.range
 | [],acc,_=>.inl ⟨acc,rfl⟩
 |c::r,acc,h=>by
  have h1:Px.digB c=true/\r.all Px.digB=true:=by simpa using h
  have hc:48<=c.toNat/\c.toNat<=57:=by simpa[Px.digB]using h1.1
  unfold Lib.parseUintM;rw[if_pos hc];by_cases h2:1844674407370955162<=acc
  ·rw[if_pos h2];exact .inr rfl
  ·rw[if_neg h2];by_cases h3:M<acc*10+(c.toNat-48)
   ·rw[if_pos h3];exact .inr rfl
   ·rw[if_neg h3];exact qb4 M r _ h1.2
theorem qhg(l:List UInt8)(h:Px.numB l=true):(∃v,Lib.parseIntB 64 l=.ok v)\/Lib.parseIntB 64 l=.range:=by
 unfold Px.numB at h;rw[Bool.and_eq_true]at h;obtain⟨h1,h2⟩:=h;cases l with
 |nil=>simp[Px.unsign]at h2
 |cons c r=>
  have hne:(if c.toNat=43\/c.toNat=45 then r else c::r)=Px.unsign (c::r):=by
   unfold Px.unsign;by_cases e:c.toNat=45
   ·simp[e]
   ·have e3:¬c.toNat=43:=by
     intro e3;have:Px.digB c=true/\r.all Px.digB=true:=by simpa[Px.unsign,e]using h1
     simp[Px.digB,e3]at this
    simp[e,e3]
  have hn:Px.unsign (c::r)≠[]:=by intro e;rw[e]at h2;simp at h2
  have hp:=qb4 (2 ^ 64-1) _ 0 h1;have hq:Lib.parseUintB 64 (Px.unsign (c::r))=Lib.parseUintM (2 ^ 64-1) 0 (Px.unsign (c::r)):=by unfold Lib.parseUintB;rw[if_neg hn]
  unfold Lib.parseIntB;simp only[hne,hq];rcases hp with⟨u,hu⟩|hu
  ·rw[hu];simp only;split
   ·exact .inr rfl
   ·split
    ·exact .inr rfl
    ·exact .inl ⟨_,rfl⟩
  ·rw[hu];exact .inr rfl
def GV(w:World):Prop:=∃tp p,w.var? prog "strconv.ErrRange" =some #[.iface tp p]
theorem errRange_no:prog.globalNamed "strconv.ErrRange" =some 5:=by kernel_rfl
theorem Only.below{b B:Nat}{w w':World}(h:Only b w w')(hb:B<=b)(hs:B<=w.heap.size):Below B w w':=
 ⟨h.os,h.tape,h.output,h.size,fun k hk=>h.block k (by omega) (by intro e;cases e;omega)⟩
theorem GV.only{b:Nat}{w w':World}(h:GV w)(hO:Only b w w')(hb:6<=b)(hs:6<=w.heap.size):GV w':=by
 obtain⟨tp,p,h⟩:=h;exact⟨tp,p,var?_below (hO.below hb hs) errRange_no (by omega) h⟩
theorem word_L{s:ByteArray}{p q:Nat}(h:Scan Px.wordB s p q)(hq:∀h:q<s.size,Px.wordB s[q]=false):Py.word (L s p)=Py.wordOf (s.extract p q).data.toList (L s q):=by
 unfold Py.word;rw[(h.fin hq).1,(h.fin hq).2]
theorem wlen{s:ByteArray}{p q:Nat}(h1:p<=q)(h2:q<=s.size):(s.extract p q).data.toList.length+(L s q).length=s.size-p:=by
 rw[qku,List.length_take,qb3,qb3];omega
theorem qef(u:ByteArray)(hmax:u.size<=9223372036854775806)(v:Int)(h:Lib.parseIntB 64 u.data.toList=.ok v)(w:World):
  Calls prog 247 #[.string u,.int .i64 10,.int .i64 64] w fun e w'=>e=.returned (.tuple #[.int .i64 v,.nilIface])/\Below w.heap.size w w':=by
 refine(Tryz.strconv_ParseInt_10_at64_ok u hmax v h w).mono ?_;rintro e w1 ⟨rfl,hw1⟩;refine⟨rfl,?_⟩;rcases hw1 with rfl|⟨t,rfl⟩
 ·exact Below.refl _ _
 ·exact Lib.bytesWorld_below _ _ _
theorem qqi(b:Nat)(s:ByteArray)(p d:Nat)(w:World)(h:Rd b s p d w)(hp:p<s.size)(hs:s.size<=1200)(hd30:d<=30)(hG:GV w)(hb6:6<=b):
  Calls prog 154 #[.pointer (some ⟨b,0,none⟩)] w fun e w'=>Res b s d (Py.word (L s p)) w e w':=by
 have h1:=h.c1;have hf:=h.fz 1;have hb:=h.lt;have HR:Hid (Rd b s p d w):=h;have HG:=hZ hG;clear h hG;go_enter func154,ntmps154
 go_wp2;go_loopw [] (fun wr=>∃q,Scan Px.wordB s p q/\Rd b s q d wr/\Only b w wr/\Box w.heap.size wr/\w.heap.size<wr.heap.size) (fun wr=>s.size-posOf b wr)
 case atStart=>exact⟨p,Scan.refl _ _ _ (by omega),HR.out.alloc _,(Only.refl b w).alloc _,Box.new w _ _ _ _ _ _,by simp⟩
 case round=>
  obtain⟨q,hS,hR,hO,hX,hz⟩:=hrel;have h0':=hR.c0;have h1':=hR.c1;have hf':=hR.fz 1;have hq:=hS.lim;have hpq:=hS.le;have HRq:=hZ hR;have HO:=hZ hO;have HX:=hZ hX;have HS:=hZ hS;have HPos:Hid (posOf b wr=q):=hR.pos;clear hR hO hX hS;by_cases hlt:q<s.size
  ·have hd:((q:Int)==(s.size:Int))=false:=by simp;omega
   cases hc:Px.wordB s[q]
   ·have hmark:=hc;clear hmark;have hT0:Py.word (L s p)=Py.wordOf (s.extract p q).data.toList (L s q):=word_L HS.out (fun _=>hc);have hwl:=wlen (s:=s) hpq hq;go_wp2;go_quiet ((first|(go_at_call 87;exact Calls.quiet_of (qah b s q d _ (HRq.out.drewN _)))|(go_at_call 153;exact Calls.quiet_of_same (qa0 _ _))))
    go_wp2;go_quiet (fail)
    obtain⟨u,hu⟩:∃u,u=s.extract p q:=⟨_,rfl⟩;rw[<-hu]at hT0 hwl|-;have hule:u.size<=1200:=by rw[hu];simp;omega
    have HU:=hZ hu;have HWL:=hZ hwl;have HT0:=hZ hT0;clear hu hwl hT0;cases hn:Px.numB u.data.toList
    ·by_cases hlen:24<u.size
     ·have HT:Hid (Py.word (L s p)=.inl (4,s.size-p)):=by
       show _=_;rw[HT0.out];unfold Py.wordOf;rw[hn,if_neg (by simp),if_pos (by simpa using hlen),HWL.out]
      go_wp2_with (first|(go_at_call 246;refine(qa7 _ _ (by omega)).mono ?_;rintro e w' ⟨rfl,rfl⟩)|(go_at_call 147;refine(qbb _ _ _).mono ?_;rintro e w' ⟨N,rfl,hN,hN2,hbl⟩;refine Hid.out ?_))
      have hO2:Only b w w':=Only.of (HO.out.drewN _) hbl;have HR9:=hZ ((HRq.out.drewN _).below hbl (by first|omega|(simp;done)|(simp;omega)));have hx:Box w.heap.size w':=(HX.out.drewN _).below hbl (by first|omega|(simp;done)|(simp;omega));have hsz:w.heap.size+1<=N:=by first|omega|(simp at hN;omega)
      obtain⟨⟨y0,k0⟩,⟨y1,k1⟩,⟨y2,k2⟩,⟨y3,k3⟩,⟨y4,k4⟩,⟨y5,k5⟩,kf⟩:=hx;have HN2:=hZ hN2;have HO2:=hZ hO2;clear hN hN2 hbl hO2;refine hZ ?_;go_wp2;refine bodyPost_ret (v:=.tuple #[El.nil.v,.pointer (some ⟨N,0,none⟩)]) (by simp[results,results154,go_sem, *]) rfl ?_;rw[HT.out];exact Res.err HO2.out (Nat.le_refl _) (by omega) (by omega) HN2.out rfl (by omega) HR9.out (by omega) _ _ _ _ _ _
     ·have HT:Hid (Py.word (L s p)=Py.closed (.sym u.data.toList 0) (L s q)):=by
       show _=_;rw[HT0.out];unfold Py.wordOf;rw[hn,if_neg (by simp),if_neg (by simpa using hlen)]
      go_wp2_with (first|(go_at_call 246;refine(qa7 _ _ (by omega)).mono ?_;rintro e w' ⟨rfl,rfl⟩)|(go_at_call 239;refine(qdu _ _).mono ?_;rintro e w1 ⟨rfl,hbl⟩;refine Hid.out ?_))
      have HR1:=hZ ((HRq.out.drewN _).below hbl (by simp;omega));have HO1:=hZ (Only.of (HO.out.drewN _) hbl);have HX1:=hZ ((HX.out.drewN _).below hbl (by simp;omega));have hz1:w.heap.size+1<=w1.heap.size:=by have:=hbl.size;simp at this;omega
      clear hbl;refine hZ ?_;by_cases hcl:∀hlt:q<s.size,Px.endB s[q]=true
      ·have HC:Hid (Py.closed (.sym u.data.toList 0) (L s q)=.inr ([.sym u.data.toList 0],L s q)):=qbv s q _ hcl;have HCl:=hZ hcl;clear hcl;go_wp2_with (go_at_call 242;refine(qb6 b s q d ⟨3,0,false,u,0,none,0,0⟩ _ HR1.out HCl.out (by omega)).mono ?_;rintro e w9 ⟨rfl,hbl⟩;refine Hid.out ?_)
       have HR2:=hZ (HR1.out.below hbl (by omega));have HO2:=hZ (Only.of HO1.out hbl);obtain⟨⟨y0,k0⟩,⟨y1,k1⟩,⟨y2,k2⟩,⟨y3,k3⟩,⟨y4,k4⟩,⟨y5,k5⟩,kf⟩:=HX1.out.below hbl (by omega);clear hbl;refine hZ ?_;go_wp2;refine bodyPost_ret (v:=.tuple #[El.v ⟨3,0,false,u,0,none,0,0⟩,.pointer none]) (by simp[results,results154,go_sem, *]) rfl ?_;rw[HT.out,HC.out];exact Res.ok HO2.out (Nat.le_refl _) (Nat.lt_succ_self _) hb (by rw[show 32-d=(31-d)+1 from by omega];exact .inr (.inr (.inr (.inl ⟨rfl,rfl,rfl⟩)))) HR2.out (by rw[qb3];omega) _ _ _ _ _ _
      ·have hcl':∃hlt:q<s.size,Px.endB s[q]=false:=by
        rcases Classical.not_forall.1 hcl with⟨a,ha⟩;exact⟨a,by simpa using ha⟩
       obtain⟨hl2,he2⟩:=hcl';have HC:Hid (Py.closed (.sym u.data.toList 0) (L s q)=.inl (2,s.size-q)):=qch s q _ hl2 he2;clear hcl;go_wp2_with (go_at_call 242;refine(qct b s q d ⟨3,0,false,u,0,none,0,0⟩ _ HR1.out hl2 he2).mono ?_;rintro e w' ⟨N,rfl,hN,hN2,hbl⟩;refine Hid.out ?_)
       have hO2:Only b w w':=Only.of (HO1.out) hbl;have HR9:=hZ ((HR1.out).below hbl (by first|omega|(simp;done)|(simp;omega)));have hx:Box w.heap.size w':=(HX1.out).below hbl (by first|omega|(simp;done)|(simp;omega));have hsz:w.heap.size+1<=N:=by first|omega|(simp at hN;omega)
       obtain⟨⟨y0,k0⟩,⟨y1,k1⟩,⟨y2,k2⟩,⟨y3,k3⟩,⟨y4,k4⟩,⟨y5,k5⟩,kf⟩:=hx;have HN2:=hZ hN2;have HO2:=hZ hO2;clear hN hN2 hbl hO2;refine hZ ?_;go_wp2;refine bodyPost_ret (v:=.tuple #[El.nil.v,.pointer (some ⟨N,0,none⟩)]) (by simp[results,results154,go_sem, *]) rfl ?_;rw[HT.out,HC.out];exact Res.err HO2.out (Nat.le_refl _) (by omega) (by omega) HN2.out rfl (by omega) HR9.out (by omega) _ _ _ _ _ _
    ·rcases qhg _ hn with⟨v,hv⟩|hv
     ·have HT:Hid (Py.word (L s p)=Py.closed (.num v) (L s q)):=by
       show _=_;rw[HT0.out];unfold Py.wordOf;rw[hn,if_pos rfl,hv]
      have hvb:=Lib.parseIntB_bounds hv;have HVB:=hZ hvb;have HV:=hZ hv;clear hv hvb;go_wp2_with (first|(go_at_call 246;refine(qa7 _ _ (by omega)).mono ?_;rintro e w' ⟨rfl,rfl⟩)|(go_at_call 247;refine(qef u (by omega) v HV.out _).mono ?_;rintro e w1 ⟨rfl,hbl⟩;refine Hid.out ?_))
      have HR1:=hZ ((HRq.out.drewN _).below hbl (by simp;omega));have HO1:=hZ (Only.of (HO.out.drewN _) hbl);have HX1:=hZ ((HX.out.drewN _).below hbl (by simp;omega));have hz1:w.heap.size+1<=w1.heap.size:=by have:=hbl.size;simp at this;omega
      clear hbl;refine hZ ?_;go_wp2_with (go_at_call 248;refine(qdw _ _).mono ?_;rintro e w2 ⟨rfl,hbl⟩;refine Hid.out ?_)
      have HR3:=hZ (HR1.out.below hbl (by omega));have HO3:=hZ (Only.of HO1.out hbl);have HX3:=hZ (HX1.out.below hbl (by omega));have hz3:w.heap.size+1<=w2.heap.size:=by have:=hbl.size;omega
      clear hbl;refine hZ ?_;by_cases hcl:∀hlt:q<s.size,Px.endB s[q]=true
      ·have HC:Hid (Py.closed (.num v) (L s q)=.inr ([.num v],L s q)):=qbv s q _ hcl;have HCl:=hZ hcl;clear hcl;go_wp2_with (go_at_call 242;refine(qb6 b s q d ⟨0,v,false,⟨#[]⟩,0,none,0,0⟩ _ HR3.out HCl.out (by omega)).mono ?_;rintro e w9 ⟨rfl,hbl⟩;refine Hid.out ?_)
       have HR2:=hZ (HR3.out.below hbl (by omega));have HO2:=hZ (Only.of HO3.out hbl);obtain⟨⟨y0,k0⟩,⟨y1,k1⟩,⟨y2,k2⟩,⟨y3,k3⟩,⟨y4,k4⟩,⟨y5,k5⟩,kf⟩:=HX3.out.below hbl (by omega);clear hbl;refine hZ ?_;go_wp2;refine bodyPost_ret (v:=.tuple #[El.v ⟨0,v,false,⟨#[]⟩,0,none,0,0⟩,.pointer none]) (by simp[results,results154,go_sem, *]) rfl ?_;rw[HT.out,HC.out];exact Res.ok HO2.out (Nat.le_refl _) (Nat.lt_succ_self _) hb (by rw[show 32-d=(31-d)+1 from by omega];exact .inl ⟨rfl,rfl,by have:=HVB.out.1;show _<=v;simpa using this,(by have:=HVB.out.2;simp at this;show v<=_;omega),rfl,rfl,rfl⟩) HR2.out (by rw[qb3];omega) _ _ _ _ _ _
      ·have hcl':∃hlt:q<s.size,Px.endB s[q]=false:=by
        rcases Classical.not_forall.1 hcl with⟨a,ha⟩;exact⟨a,by simpa using ha⟩
       obtain⟨hl2,he2⟩:=hcl';have HC:Hid (Py.closed (.num v) (L s q)=.inl (2,s.size-q)):=qch s q _ hl2 he2;clear hcl;go_wp2_with (go_at_call 242;refine(qct b s q d ⟨0,v,false,⟨#[]⟩,0,none,0,0⟩ _ HR3.out hl2 he2).mono ?_;rintro e w' ⟨N,rfl,hN,hN2,hbl⟩;refine Hid.out ?_)
       have hO2:Only b w w':=Only.of (HO3.out) hbl;have HR9:=hZ ((HR3.out).below hbl (by first|omega|(simp;done)|(simp;omega)));have hx:Box w.heap.size w':=(HX3.out).below hbl (by first|omega|(simp;done)|(simp;omega));have hsz:w.heap.size+1<=N:=by first|omega|(simp at hN;omega)
       obtain⟨⟨y0,k0⟩,⟨y1,k1⟩,⟨y2,k2⟩,⟨y3,k3⟩,⟨y4,k4⟩,⟨y5,k5⟩,kf⟩:=hx;have HN2:=hZ hN2;have HO2:=hZ hO2;clear hN hN2 hbl hO2;refine hZ ?_;go_wp2;refine bodyPost_ret (v:=.tuple #[El.nil.v,.pointer (some ⟨N,0,none⟩)]) (by simp[results,results154,go_sem, *]) rfl ?_;rw[HT.out,HC.out];exact Res.err HO2.out (Nat.le_refl _) (by omega) (by omega) HN2.out rfl (by omega) HR9.out (by omega) _ _ _ _ _ _
     ·have HT:Hid (Py.word (L s p)=.inl (4,s.size-p)):=by
       show _=_;rw[HT0.out];unfold Py.wordOf;rw[hn,if_pos rfl,hv,HWL.out]
      obtain⟨tp,pv,hvar⟩:=(HG.out.only HO.out hb6 (by omega));have HV:=hZ hv;have HVar:=hZ hvar;clear hv hvar;go_wp2_with (first|(go_at_call 246;refine(qa7 _ _ (by omega)).mono ?_;rintro e w' ⟨rfl,rfl⟩)|(go_at_call 247;refine(Tryz.strconv_ParseInt_10_at64_range_var u (by omega) HV.out tp pv _ (by exact HVar.out)).mono ?_;rintro e w1 ⟨N1,rfl,hN1,hN12,hbl⟩;refine Hid.out ?_))
      clear hN1 hN12;have HR1:=hZ ((HRq.out.drewN _).below hbl (by simp;omega));have HO1:=hZ (Only.of (HO.out.drewN _) hbl);have HX1:=hZ ((HX.out.drewN _).below hbl (by simp;omega));have hz1:w.heap.size+1<=w1.heap.size:=by have:=hbl.size;simp at this;omega
      clear hbl;refine hZ ?_;go_wp2_with (go_at_call 147;refine(qbb _ _ _).mono ?_;rintro e w' ⟨N,rfl,hN,hN2,hbl⟩;refine Hid.out ?_)
      have hO2:Only b w w':=Only.of (HO1.out) hbl;have HR9:=hZ ((HR1.out).below hbl (by first|omega|(simp;done)|(simp;omega)));have hx:Box w.heap.size w':=(HX1.out).below hbl (by first|omega|(simp;done)|(simp;omega));have hsz:w.heap.size+1<=N:=by first|omega|(simp at hN;omega)
      obtain⟨⟨y0,k0⟩,⟨y1,k1⟩,⟨y2,k2⟩,⟨y3,k3⟩,⟨y4,k4⟩,⟨y5,k5⟩,kf⟩:=hx;have HN2:=hZ hN2;have HO2:=hZ hO2;clear hN hN2 hbl hO2;refine hZ ?_;go_wp2;refine bodyPost_ret (v:=.tuple #[El.nil.v,.pointer (some ⟨N,0,none⟩)]) (by simp[results,results154,go_sem, *]) rfl ?_;rw[HT.out];exact Res.err HO2.out (Nat.le_refl _) (by omega) (by omega) HN2.out rfl (by omega) HR9.out (by omega) _ _ _ _ _ _
   ·go_wp2;go_quiet ((first|(go_at_call 87;exact Calls.quiet_of (qah b s q d _ (HRq.out.drewN _)))|(go_at_call 153;exact Calls.quiet_of_same (qa0 _ _))))
    go_wp2;go_roundw
    case rel=>exact⟨q+1,HS.out.next hlt hc,(HRq.out.drewN _).set1 _ _ (by omega),(HO.out.drewN _).set _ _,(HX.out.drewN _).set (by omega) _,by simpa using hz⟩
    case measure=>
     have e1:=HPos.out;have e2:=((HRq.out.drewN nq).set1 (q+1) ((q:Int)+1) (by omega)).pos;rw[e1,e2];omega
  ·have hd:((q:Int)==(s.size:Int))=true:=by simp;omega
   have hT0:Py.word (L s p)=Py.wordOf (s.extract p q).data.toList (L s q):=word_L HS.out (fun h=>absurd h hlt);have hwl:=wlen (s:=s) hpq hq;go_wp2;go_quiet ((first|(go_at_call 87;exact Calls.quiet_of (qah b s q d _ (HRq.out.drewN _)))|(go_at_call 153;exact Calls.quiet_of_same (qa0 _ _))))
   go_wp2;go_quiet (fail)
   obtain⟨u,hu⟩:∃u,u=s.extract p q:=⟨_,rfl⟩;rw[<-hu]at hT0 hwl|-;have hule:u.size<=1200:=by rw[hu];simp;omega
   have HU:=hZ hu;have HWL:=hZ hwl;have HT0:=hZ hT0;clear hu hwl hT0;cases hn:Px.numB u.data.toList
   ·by_cases hlen:24<u.size
    ·have HT:Hid (Py.word (L s p)=.inl (4,s.size-p)):=by
      show _=_;rw[HT0.out];unfold Py.wordOf;rw[hn,if_neg (by simp),if_pos (by simpa using hlen),HWL.out]
     go_wp2_with (first|(go_at_call 246;refine(qa7 _ _ (by omega)).mono ?_;rintro e w' ⟨rfl,rfl⟩)|(go_at_call 147;refine(qbb _ _ _).mono ?_;rintro e w' ⟨N,rfl,hN,hN2,hbl⟩;refine Hid.out ?_))
     have hO2:Only b w w':=Only.of (HO.out.drewN _) hbl;have HR9:=hZ ((HRq.out.drewN _).below hbl (by first|omega|(simp;done)|(simp;omega)));have hx:Box w.heap.size w':=(HX.out.drewN _).below hbl (by first|omega|(simp;done)|(simp;omega));have hsz:w.heap.size+1<=N:=by first|omega|(simp at hN;omega)
     obtain⟨⟨y0,k0⟩,⟨y1,k1⟩,⟨y2,k2⟩,⟨y3,k3⟩,⟨y4,k4⟩,⟨y5,k5⟩,kf⟩:=hx;have HN2:=hZ hN2;have HO2:=hZ hO2;clear hN hN2 hbl hO2;refine hZ ?_;go_wp2;refine bodyPost_ret (v:=.tuple #[El.nil.v,.pointer (some ⟨N,0,none⟩)]) (by simp[results,results154,go_sem, *]) rfl ?_;rw[HT.out];exact Res.err HO2.out (Nat.le_refl _) (by omega) (by omega) HN2.out rfl (by omega) HR9.out (by omega) _ _ _ _ _ _
    ·have HT:Hid (Py.word (L s p)=Py.closed (.sym u.data.toList 0) (L s q)):=by
      show _=_;rw[HT0.out];unfold Py.wordOf;rw[hn,if_neg (by simp),if_neg (by simpa using hlen)]
     go_wp2_with (first|(go_at_call 246;refine(qa7 _ _ (by omega)).mono ?_;rintro e w' ⟨rfl,rfl⟩)|(go_at_call 239;refine(qdu _ _).mono ?_;rintro e w1 ⟨rfl,hbl⟩;refine Hid.out ?_))
     have HR1:=hZ ((HRq.out.drewN _).below hbl (by simp;omega));have HO1:=hZ (Only.of (HO.out.drewN _) hbl);have HX1:=hZ ((HX.out.drewN _).below hbl (by simp;omega));have hz1:w.heap.size+1<=w1.heap.size:=by have:=hbl.size;simp at this;omega
     clear hbl;refine hZ ?_;by_cases hcl:∀hlt:q<s.size,Px.endB s[q]=true
     ·have HC:Hid (Py.closed (.sym u.data.toList 0) (L s q)=.inr ([.sym u.data.toList 0],L s q)):=qbv s q _ hcl;have HCl:=hZ hcl;clear hcl;go_wp2_with (go_at_call 242;refine(qb6 b s q d ⟨3,0,false,u,0,none,0,0⟩ _ HR1.out HCl.out (by omega)).mono ?_;rintro e w9 ⟨rfl,hbl⟩;refine Hid.out ?_)
      have HR2:=hZ (HR1.out.below hbl (by omega));have HO2:=hZ (Only.of HO1.out hbl);obtain⟨⟨y0,k0⟩,⟨y1,k1⟩,⟨y2,k2⟩,⟨y3,k3⟩,⟨y4,k4⟩,⟨y5,k5⟩,kf⟩:=HX1.out.below hbl (by omega);clear hbl;refine hZ ?_;go_wp2;refine bodyPost_ret (v:=.tuple #[El.v ⟨3,0,false,u,0,none,0,0⟩,.pointer none]) (by simp[results,results154,go_sem, *]) rfl ?_;rw[HT.out,HC.out];exact Res.ok HO2.out (Nat.le_refl _) (Nat.lt_succ_self _) hb (by rw[show 32-d=(31-d)+1 from by omega];exact .inr (.inr (.inr (.inl ⟨rfl,rfl,rfl⟩)))) HR2.out (by rw[qb3];omega) _ _ _ _ _ _
     ·have hcl':∃hlt:q<s.size,Px.endB s[q]=false:=by
       rcases Classical.not_forall.1 hcl with⟨a,ha⟩;exact⟨a,by simpa using ha⟩
      obtain⟨hl2,he2⟩:=hcl';exact absurd hl2 hlt
   ·rcases qhg _ hn with⟨v,hv⟩|hv
    ·have HT:Hid (Py.word (L s p)=Py.closed (.num v) (L s q)):=by
      show _=_;rw[HT0.out];unfold Py.wordOf;rw[hn,if_pos rfl,hv]
     have hvb:=Lib.parseIntB_bounds hv;have HVB:=hZ hvb;have HV:=hZ hv;clear hv hvb;go_wp2_with (first|(go_at_call 246;refine(qa7 _ _ (by omega)).mono ?_;rintro e w' ⟨rfl,rfl⟩)|(go_at_call 247;refine(qef u (by omega) v HV.out _).mono ?_;rintro e w1 ⟨rfl,hbl⟩;refine Hid.out ?_))
     have HR1:=hZ ((HRq.out.drewN _).below hbl (by simp;omega));have HO1:=hZ (Only.of (HO.out.drewN _) hbl);have HX1:=hZ ((HX.out.drewN _).below hbl (by simp;omega));have hz1:w.heap.size+1<=w1.heap.size:=by have:=hbl.size;simp at this;omega
     clear hbl;refine hZ ?_;go_wp2_with (go_at_call 248;refine(qdw _ _).mono ?_;rintro e w2 ⟨rfl,hbl⟩;refine Hid.out ?_)
     have HR3:=hZ (HR1.out.below hbl (by omega));have HO3:=hZ (Only.of HO1.out hbl);have HX3:=hZ (HX1.out.below hbl (by omega));have hz3:w.heap.size+1<=w2.heap.size:=by have:=hbl.size;omega
     clear hbl;refine hZ ?_;by_cases hcl:∀hlt:q<s.size,Px.endB s[q]=true
     ·have HC:Hid (Py.closed (.num v) (L s q)=.inr ([.num v],L s q)):=qbv s q _ hcl;have HCl:=hZ hcl;clear hcl;go_wp2_with (go_at_call 242;refine(qb6 b s q d ⟨0,v,false,⟨#[]⟩,0,none,0,0⟩ _ HR3.out HCl.out (by omega)).mono ?_;rintro e w9 ⟨rfl,hbl⟩;refine Hid.out ?_)
      have HR2:=hZ (HR3.out.below hbl (by omega));have HO2:=hZ (Only.of HO3.out hbl);obtain⟨⟨y0,k0⟩,⟨y1,k1⟩,⟨y2,k2⟩,⟨y3,k3⟩,⟨y4,k4⟩,⟨y5,k5⟩,kf⟩:=HX3.out.below hbl (by omega);clear hbl;refine hZ ?_;go_wp2;refine bodyPost_ret (v:=.tuple #[El.v ⟨0,v,false,⟨#[]⟩,0,none,0,0⟩,.pointer none]) (by simp[results,results154,go_sem, *]) rfl ?_;rw[HT.out,HC.out];exact Res.ok HO2.out (Nat.le_refl _) (Nat.lt_succ_self _) hb (by rw[show 32-d=(31-d)+1 from by omega];exact .inl ⟨rfl,rfl,by have:=HVB.out.1;show _<=v;simpa using this,(by have:=HVB.out.2;simp at this;show v<=_;omega),rfl,rfl,rfl⟩) HR2.out (by rw[qb3];omega) _ _ _ _ _ _
     ·have hcl':∃hlt:q<s.size,Px.endB s[q]=false:=by
       rcases Classical.not_forall.1 hcl with⟨a,ha⟩;exact⟨a,by simpa using ha⟩
      obtain⟨hl2,he2⟩:=hcl';exact absurd hl2 hlt
    ·have HT:Hid (Py.word (L s p)=.inl (4,s.size-p)):=by
      show _=_;rw[HT0.out];unfold Py.wordOf;rw[hn,if_pos rfl,hv,HWL.out]
     obtain⟨tp,pv,hvar⟩:=(HG.out.only HO.out hb6 (by omega));have HV:=hZ hv;have HVar:=hZ hvar;clear hv hvar;go_wp2_with (first|(go_at_call 246;refine(qa7 _ _ (by omega)).mono ?_;rintro e w' ⟨rfl,rfl⟩)|(go_at_call 247;refine(Tryz.strconv_ParseInt_10_at64_range_var u (by omega) HV.out tp pv _ (by exact HVar.out)).mono ?_;rintro e w1 ⟨N1,rfl,hN1,hN12,hbl⟩;refine Hid.out ?_))
     clear hN1 hN12;have HR1:=hZ ((HRq.out.drewN _).below hbl (by simp;omega));have HO1:=hZ (Only.of (HO.out.drewN _) hbl);have HX1:=hZ ((HX.out.drewN _).below hbl (by simp;omega));have hz1:w.heap.size+1<=w1.heap.size:=by have:=hbl.size;simp at this;omega
     clear hbl;refine hZ ?_;go_wp2_with (go_at_call 147;refine(qbb _ _ _).mono ?_;rintro e w' ⟨N,rfl,hN,hN2,hbl⟩;refine Hid.out ?_)
     have hO2:Only b w w':=Only.of (HO1.out) hbl;have HR9:=hZ ((HR1.out).below hbl (by first|omega|(simp;done)|(simp;omega)));have hx:Box w.heap.size w':=(HX1.out).below hbl (by first|omega|(simp;done)|(simp;omega));have hsz:w.heap.size+1<=N:=by first|omega|(simp at hN;omega)
     obtain⟨⟨y0,k0⟩,⟨y1,k1⟩,⟨y2,k2⟩,⟨y3,k3⟩,⟨y4,k4⟩,⟨y5,k5⟩,kf⟩:=hx;have HN2:=hZ hN2;have HO2:=hZ hO2;clear hN hN2 hbl hO2;refine hZ ?_;go_wp2;refine bodyPost_ret (v:=.tuple #[El.nil.v,.pointer (some ⟨N,0,none⟩)]) (by simp[results,results154,go_sem, *]) rfl ?_;rw[HT.out];exact Res.err HO2.out (Nat.le_refl _) (by omega) (by omega) HN2.out rfl (by omega) HR9.out (by omega) _ _ _ _ _ _
end Rd
end
section
namespace Rd
open Go.RowKit
def ResN(b:Nat)(s:ByteArray)(d:Nat)(r:Py.R)(w:World)(e:Ending)(w':World):Prop:=
 Only b w w'/\
 match r with
 | .inl (c,k)=>∃N,e=.returned (.tuple #[El.nil.v,.pointer (some ⟨N,0,none⟩)])/\w.heap.size<=N/\w'.heap[N]? =some (.cells #[.int .i64 (c:Int),.int .i64 ((s.size-k:Nat):Int)] 126 (0,0))/\∃p',Rd b s p' d w'
 | .inr (ts,r)=>∃(x:El) (t:Dt),ts=[t]/\e=.returned (.tuple #[x.v,.pointer none])/\Rep w.heap.size NoB w' (33-d) x t/\Rd b s (s.size-r.length) d w'
theorem qgb(b:Nat)(s:ByteArray)(p d:Nat)(w:World)(h:Rd b s p d w)(hp:p<s.size)(hs:s.size<=1200)(hd:d=30):
  Calls prog 148 #[.pointer (some ⟨b,0,none⟩),.func (.func 149) #[.pointer (some ⟨b,0,none⟩)] #[]] w fun e w'=>Res b s d (.inl (4,s.size-p)) w e w':=by
 have hb:=h.lt;have h1:=h.c1;have h2:=h.c2;have HR:=hZ h;have hdi:((d:Int)==30)=true:=by simp;omega
 clear h hd;go_enter func148,ntmps148
 go_wp2_with (go_at_call 147;refine(qbb _ _ _).mono ?_;rintro e w' ⟨N,rfl,hN,hN2,hbl⟩;refine Hid.out ?_)
 have hO2:Only b w w':=Only.of ((Only.refl b w).alloc _) hbl;have HR9:=hZ ((HR.out.alloc _).below hbl (by first|omega|(simp;done)|(simp;omega)));have hx:Box w.heap.size w':=(Box.new w _ _ _ _ _ _).below hbl (by first|omega|(simp;done)|(simp;omega));have hsz:w.heap.size+1<=N:=by first|omega|(simp at hN;omega)
 obtain⟨⟨y0,k0⟩,⟨y1,k1⟩,⟨y2,k2⟩,⟨y3,k3⟩,⟨y4,k4⟩,⟨y5,k5⟩,kf⟩:=hx;have HN2:=hZ hN2;have HO2:=hZ hO2;clear hN hN2 hbl hO2;refine hZ ?_;go_wp2;refine bodyPost_ret (v:=.tuple #[El.nil.v,.pointer (some ⟨N,0,none⟩)]) (by simp[results,results148,go_sem, *]) rfl ?_;exact Res.err HO2.out (Nat.le_refl _) (by omega) (by omega) HN2.out rfl (by omega) HR9.out (by omega) _ _ _ _ _ _
theorem qi3(b:Nat)(s:ByteArray)(p d:Nat)(r:Py.R)(w:World)(h:Rd b s p d w)(hp:p<s.size)(hs:s.size<=1200)(hd30:d<30)(hG:GV w)(hb6:6<=b)
  (hk:∀w,Rd b s (p+1) (d+1) w->GV w->Calls prog 149 #[.pointer (some ⟨b,0,none⟩)] w fun e w'=>ResN b s (d+1) r w e w'):
  Calls prog 148 #[.pointer (some ⟨b,0,none⟩),.func (.func 149) #[.pointer (some ⟨b,0,none⟩)] #[]] w fun e w'=>Res b s d r w e w':=by
 have hb:=h.lt;have h1:=h.c1;have h2:=h.c2;have hf:=h.fz 1;have hf2:=h.fz 2;have HR:=hZ h;have HG:=hZ hG;have HK:=hZ hk;clear h hG hk;have hdi:((d:Int)==30)=false:=by simp;omega
 rcases r with⟨c,k⟩|⟨ts,rr⟩
 ·go_enter func148,ntmps148
  go_wp2_with (go_at_call 149;refine(HK.out _ (by exact((HR.out.set1 (p+1) _ (by omega)).set2 (d+1) _ (by omega)).alloc _) (by exact(HG.out.only ((((Only.refl b w).set _ _).set _ _).alloc _) hb6 (by omega)))).mono ?_;rintro e w1 ⟨hO,N,rfl,hN0,hN,p',hR1⟩;refine Hid.out ?_)
  have hz1:w.heap.size+1<=w1.heap.size:=by have:=hO.size;simp at this;omega
  have hb1:b<w1.heap.size:=by omega
  have hzl:w.heap.size<w1.heap.size:=by omega
  have hbn:¬b=w.heap.size:=by omega
  have hbn':¬w.heap.size=b:=by omega
  have HO1:=hZ (((((Only.refl b w).set _ _).set _ _).alloc _).trans hO);have g2:=hR1.c2;have gf:=hR1.fz 2;have HR1:=hZ hR1;obtain⟨⟨y0,k0⟩,⟨y1,k1⟩,⟨y2,k2⟩,⟨y3,k3⟩,⟨y4,k4⟩,⟨y5,k5⟩,kf⟩:=(Box.new2 w _ _ _ _ _ _ _ _ _ _).kept hO (by intro e;cases e;omega) (by simp);have hN9:w.heap.size+1<=N:=by simpa using hN0
  have HN:=hZ hN;clear hO hN hN0 hR1;refine hZ ?_;go_wp2;refine bodyPost_ret (v:=.tuple #[El.nil.v,.pointer (some ⟨N,0,none⟩)]) (by simp[results,results148,go_sem, *]) rfl ?_;exact(Res.err (HO1.out.set 2 _) (Nat.le_refl _) (by omega) (by omega) (by rw[Below.heap_setCell _ _ _ _ (by show N≠b;omega)];exact HN.out) rfl rfl (HR1.out.set2 d _ rfl) hb _ _ _ _ _ _).alloc _
 ·go_enter func148,ntmps148
  go_wp2_with (go_at_call 149;refine(HK.out _ (by exact((HR.out.set1 (p+1) _ (by omega)).set2 (d+1) _ (by omega)).alloc _) (by exact(HG.out.only ((((Only.refl b w).set _ _).set _ _).alloc _) hb6 (by omega)))).mono ?_;rintro e w1 ⟨hO,x,t,rfl,rfl,hrep,hrd⟩;refine Hid.out ?_)
  have hz1:w.heap.size+1<=w1.heap.size:=by have:=hO.size;simp at this;omega
  have hb1:b<w1.heap.size:=by omega
  have hzl:w.heap.size<w1.heap.size:=by omega
  have hbn:¬b=w.heap.size:=by omega
  have hbn':¬w.heap.size=b:=by omega
  have HO1:=hZ (((((Only.refl b w).set _ _).set _ _).alloc _).trans hO);have g2:=hrd.c2;have gf:=hrd.fz 2;have HR1:=hZ hrd;obtain⟨⟨y0,k0⟩,⟨y1,k1⟩,⟨y2,k2⟩,⟨y3,k3⟩,⟨y4,k4⟩,⟨y5,k5⟩,kf⟩:=(Box.new2 w _ _ _ _ _ _ _ _ _ _).kept hO (by intro e;cases e;omega) (by simp);have HRep:=hZ hrep;clear hO hrep hrd;obtain⟨xk,xn,xtr,xtx,xm,xa,xlen,xcap⟩:=x;refine hZ ?_;go_wp2;refine bodyPost_ret (v:=.tuple #[El.v ⟨xk,xn,xtr,xtx,xm,xa,xlen,xcap⟩,.pointer none]) (by simp[results,results148,go_sem, *]) rfl ?_;have hrep:=HRep.out;rw[show 33-(d+1)=32-d from by omega]at hrep;exact(Res.ok (HO1.out.set 2 _) (Nat.le_refl _) (by simp) hb (Rep.kept ((Only.refl b w1).set 2 _) (fun g h=>by cases h;left;simp;omega) hrep) (HR1.out.set2 d _ rfl) rfl _ _ _ _ _ _).alloc _
theorem qga(b:Nat)(s:ByteArray)(p d:Nat)(w:World)(h:Rd b s p d w)(hp:p<s.size)(hs:s.size<=1200)(hd:d=30):
  Calls prog 148 #[.pointer (some ⟨b,0,none⟩),.func (.func 150) #[.pointer (some ⟨b,0,none⟩)] #[]] w fun e w'=>Res b s d (.inl (4,s.size-p)) w e w':=by
 have hb:=h.lt;have h1:=h.c1;have h2:=h.c2;have HR:=hZ h;have hdi:((d:Int)==30)=true:=by simp;omega
 clear h hd;go_enter func148,ntmps148
 go_wp2_with (go_at_call 147;refine(qbb _ _ _).mono ?_;rintro e w' ⟨N,rfl,hN,hN2,hbl⟩;refine Hid.out ?_)
 have hO2:Only b w w':=Only.of ((Only.refl b w).alloc _) hbl;have HR9:=hZ ((HR.out.alloc _).below hbl (by first|omega|(simp;done)|(simp;omega)));have hx:Box w.heap.size w':=(Box.new w _ _ _ _ _ _).below hbl (by first|omega|(simp;done)|(simp;omega));have hsz:w.heap.size+1<=N:=by first|omega|(simp at hN;omega)
 obtain⟨⟨y0,k0⟩,⟨y1,k1⟩,⟨y2,k2⟩,⟨y3,k3⟩,⟨y4,k4⟩,⟨y5,k5⟩,kf⟩:=hx;have HN2:=hZ hN2;have HO2:=hZ hO2;clear hN hN2 hbl hO2;refine hZ ?_;go_wp2;refine bodyPost_ret (v:=.tuple #[El.nil.v,.pointer (some ⟨N,0,none⟩)]) (by simp[results,results148,go_sem, *]) rfl ?_;exact Res.err HO2.out (Nat.le_refl _) (by omega) (by omega) HN2.out rfl (by omega) HR9.out (by omega) _ _ _ _ _ _
theorem qi2(b:Nat)(s:ByteArray)(p d:Nat)(r:Py.R)(w:World)(h:Rd b s p d w)(hp:p<s.size)(hs:s.size<=1200)(hd30:d<30)(hG:GV w)(hb6:6<=b)
  (hk:∀w,Rd b s (p+1) (d+1) w->GV w->Calls prog 150 #[.pointer (some ⟨b,0,none⟩)] w fun e w'=>ResN b s (d+1) r w e w'):
  Calls prog 148 #[.pointer (some ⟨b,0,none⟩),.func (.func 150) #[.pointer (some ⟨b,0,none⟩)] #[]] w fun e w'=>Res b s d r w e w':=by
 have hb:=h.lt;have h1:=h.c1;have h2:=h.c2;have hf:=h.fz 1;have hf2:=h.fz 2;have HR:=hZ h;have HG:=hZ hG;have HK:=hZ hk;clear h hG hk;have hdi:((d:Int)==30)=false:=by simp;omega
 rcases r with⟨c,k⟩|⟨ts,rr⟩
 ·go_enter func148,ntmps148
  go_wp2_with (go_at_call 150;refine(HK.out _ (by exact((HR.out.set1 (p+1) _ (by omega)).set2 (d+1) _ (by omega)).alloc _) (by exact(HG.out.only ((((Only.refl b w).set _ _).set _ _).alloc _) hb6 (by omega)))).mono ?_;rintro e w1 ⟨hO,N,rfl,hN0,hN,p',hR1⟩;refine Hid.out ?_)
  have hz1:w.heap.size+1<=w1.heap.size:=by have:=hO.size;simp at this;omega
  have hb1:b<w1.heap.size:=by omega
  have hzl:w.heap.size<w1.heap.size:=by omega
  have hbn:¬b=w.heap.size:=by omega
  have hbn':¬w.heap.size=b:=by omega
  have HO1:=hZ (((((Only.refl b w).set _ _).set _ _).alloc _).trans hO);have g2:=hR1.c2;have gf:=hR1.fz 2;have HR1:=hZ hR1;obtain⟨⟨y0,k0⟩,⟨y1,k1⟩,⟨y2,k2⟩,⟨y3,k3⟩,⟨y4,k4⟩,⟨y5,k5⟩,kf⟩:=(Box.new2 w _ _ _ _ _ _ _ _ _ _).kept hO (by intro e;cases e;omega) (by simp);have hN9:w.heap.size+1<=N:=by simpa using hN0
  have HN:=hZ hN;clear hO hN hN0 hR1;refine hZ ?_;go_wp2;refine bodyPost_ret (v:=.tuple #[El.nil.v,.pointer (some ⟨N,0,none⟩)]) (by simp[results,results148,go_sem, *]) rfl ?_;exact(Res.err (HO1.out.set 2 _) (Nat.le_refl _) (by omega) (by omega) (by rw[Below.heap_setCell _ _ _ _ (by show N≠b;omega)];exact HN.out) rfl rfl (HR1.out.set2 d _ rfl) hb _ _ _ _ _ _).alloc _
 ·go_enter func148,ntmps148
  go_wp2_with (go_at_call 150;refine(HK.out _ (by exact((HR.out.set1 (p+1) _ (by omega)).set2 (d+1) _ (by omega)).alloc _) (by exact(HG.out.only ((((Only.refl b w).set _ _).set _ _).alloc _) hb6 (by omega)))).mono ?_;rintro e w1 ⟨hO,x,t,rfl,rfl,hrep,hrd⟩;refine Hid.out ?_)
  have hz1:w.heap.size+1<=w1.heap.size:=by have:=hO.size;simp at this;omega
  have hb1:b<w1.heap.size:=by omega
  have hzl:w.heap.size<w1.heap.size:=by omega
  have hbn:¬b=w.heap.size:=by omega
  have hbn':¬w.heap.size=b:=by omega
  have HO1:=hZ (((((Only.refl b w).set _ _).set _ _).alloc _).trans hO);have g2:=hrd.c2;have gf:=hrd.fz 2;have HR1:=hZ hrd;obtain⟨⟨y0,k0⟩,⟨y1,k1⟩,⟨y2,k2⟩,⟨y3,k3⟩,⟨y4,k4⟩,⟨y5,k5⟩,kf⟩:=(Box.new2 w _ _ _ _ _ _ _ _ _ _).kept hO (by intro e;cases e;omega) (by simp);have HRep:=hZ hrep;clear hO hrep hrd;obtain⟨xk,xn,xtr,xtx,xm,xa,xlen,xcap⟩:=x;refine hZ ?_;go_wp2;refine bodyPost_ret (v:=.tuple #[El.v ⟨xk,xn,xtr,xtx,xm,xa,xlen,xcap⟩,.pointer none]) (by simp[results,results148,go_sem, *]) rfl ?_;have hrep:=HRep.out;rw[show 33-(d+1)=32-d from by omega]at hrep;exact(Res.ok (HO1.out.set 2 _) (Nat.le_refl _) (by simp) hb (Rep.kept ((Only.refl b w1).set 2 _) (fun g h=>by cases h;left;simp;omega) hrep) (HR1.out.set2 d _ rfl) rfl _ _ _ _ _ _).alloc _
end Rd
end
section
namespace Rd
open Go.RowKit
theorem qi0(tx:ByteArray)(w:World):
  Calls prog 239 #[.string tx] w fun e w'=>e=.returned (.agg #[.int .i64 3,.int .i64 0,.bool false,.string tx,.int .i64 0,.slice none 0 0])/\w.alloc (.cells #[.int .i64 3,.int .i64 0,.bool false,.string tx,.int .i64 0,.slice none 0 0] 134)=w':=by
 go_enter func239,ntmps239
 go_wp2;exact bodyPost_ret (v:=El.v ⟨3,0,false,tx,0,none,0,0⟩) (by simp[results,results239,go_sem]) rfl ⟨rfl,rfl⟩
theorem qhj(a:Option Addr)(len cap:Nat)(w:World):
  Calls prog 238 #[.slice a len cap] w fun e w'=>e=.returned (.agg #[.int .i64 4,.int .i64 0,.bool false,.string ⟨#[]⟩,.int .i64 0,.slice a len cap])/\w.alloc (.cells #[.int .i64 4,.int .i64 0,.bool false,.string ⟨#[]⟩,.int .i64 0,.slice a len cap] 134)=w':=by
 go_enter func238,ntmps238
 go_wp2;exact bodyPost_ret (v:=El.v ⟨4,0,false,⟨#[]⟩,0,a,len,cap⟩) (by simp[results,results238,go_sem]) rfl ⟨rfl,rfl⟩
def quoteR(r:Py.R):Py.R:=match r with
 | .inl e=>.inl e
 | .inr (xs,rr)=>.inr ([.list (.sym Px.quoteT 0::xs)],rr)
theorem qm6(W:World)(A B R C:Obj)(n:Nat)(hn:n=W.heap.size):((((W.alloc A).alloc B).alloc R).alloc C).heap[n+1+1]? =some R:=by
 subst hn;rw[Below.heap_alloc _ _ _ (by simp)];have:=heap_alloc_new ((W.alloc A).alloc B) R
 rwa [show((W.alloc A).alloc B).heap.size=W.heap.size+1+1 from by simp]at this
theorem ResN.quote{b:Nat}{s:ByteArray}{d G:Nat}{w W':World}{x:El}{t:Dt}{rr:List UInt8}(hO:Only b w W')(hG:w.heap.size<=G)
  (hrow:W'.heap[G]? =some (.cells #[.int .i64 3,.int .i64 0,.bool false,.string ⟨#[113,117,111,116,101]⟩,.int .i64 0,.slice none 0 0,.int .i64 x.k,.int .i64 x.n,.bool x.tr,.string x.tx,.int .i64 x.m,.slice x.a x.len x.cap] 134 (0,0)))
  (hrep:Rep w.heap.size NoB W' (32-d) x t)(hd:d<=30)(hR:Rd b s (s.size-rr.length) d W'):
  ResN b s d (.inr ([.list (.sym Px.quoteT 0::[t])],rr)) w (.returned (.tuple #[El.v ⟨4,0,false,⟨#[]⟩,0,some ⟨G,0,none⟩,2,2⟩,.pointer none])) W':=by
 refine⟨hO,⟨4,0,false,⟨#[]⟩,0,some ⟨G,0,none⟩,2,2⟩,_,rfl,rfl,?_,hR⟩;rw[show 33-d=(32-d)+1 from by omega];refine .inr (.inr (.inr (.inr ⟨rfl,[⟨3,0,false,⟨#[113,117,111,116,101]⟩,0,none,0,0⟩,x],[.sym Px.quoteT 0,t],rfl,rfl,⟨rfl,⟨rfl,.inr ⟨G,2,_,rfl,hG,hrow,Nat.le_refl _,by decide,rfl,rfl⟩⟩,fun g h=>by cases h⟩,?_⟩)));intro i y u h1 h2;rw[show 32-d=(31-d)+1 from by omega]
 match i,h1,h2 with
 |0,h1,h2=>simp at h1 h2;subst h1;subst h2;exact .inr (.inr (.inr (.inl ⟨rfl,rfl,rfl⟩)))
 |1,h1,h2=>simp at h1 h2;subst h1;subst h2;rw[show 32-d=(31-d)+1 from by omega]at hrep;exact hrep
 |i+2,h1,h2=>simp at h1
theorem Only.drew{b:Nat}{w w':World}(h:Only b w w'):Only b w w'.drew:=⟨h.os,h.tape,h.output,h.size,h.block⟩
theorem qib(W:World)(A B R C:Obj):W.grownBy ((((W.alloc A).alloc B).alloc R).alloc C).drew none:=
 ⟨rfl,rfl,rfl,by simp;omega,fun k hk _=>by
  show((((W.alloc A).alloc B).alloc R).alloc C).heap[k]? =_;rw[Below.heap_alloc _ _ _ (by simp;omega),Below.heap_alloc _ _ _ (by simp;omega),Below.heap_alloc _ _ _ (by simp;omega),Below.heap_alloc _ _ _ hk]⟩
theorem qn9{b:Nat}{s:ByteArray}{d g lo:Nat}{w w1:World}{x:El}{t:Dt}{rr:List UInt8}(hO:Only b w w1)(hg:w.heap.size<=g)(hlo:g<lo)(hlo2:w.heap.size<=lo)(hb:b<w.heap.size)(hd:d<=30)
  (hrep:Rep lo NoB w1 (32-d) x t)(hR:Rd b s (s.size-rr.length) d w1)(v0 v1 v2 v3 v4 v5:Value)(A B C:Obj):
  ResN b s d (.inr ([.list (.sym Px.quoteT 0::[t])],rr)) w (.returned (.tuple #[El.v ⟨4,0,false,⟨#[]⟩,0,some ⟨w1.heap.size+1+1,0,none⟩,2,2⟩,.pointer none]))
   (((((put6 w1 g v0 v1 v2 v3 v4 v5).alloc A).alloc B).alloc (.cells #[.int .i64 3,.int .i64 0,.bool false,.string ⟨#[113,117,111,116,101]⟩,.int .i64 0,.slice none 0 0,.int .i64 x.k,.int .i64 x.n,.bool x.tr,.string x.tx,.int .i64 x.m,.slice x.a x.len x.cap] 134 (0,0))).alloc C).drew:=by
 have hp:=qbo w1 g v0 v1 v2 v3 v4 v5;have hz:w1.heap.size=(put6 w1 g v0 v1 v2 v3 v4 v5).heap.size:=by simp
 have h1:Only b w (put6 w1 g v0 v1 v2 v3 v4 v5):=hO.new hp hg;have h2:Rep lo NoB (put6 w1 g v0 v1 v2 v3 v4 v5) (32-d) x t:=Rep.kept hp (fun g' h=>by cases h;exact .inl hlo) hrep;have h3:Rd b s (s.size-rr.length) d (put6 w1 g v0 v1 v2 v3 v4 v5):=hR.kept hp (by intro e;cases e;omega);have hsz:=hO.size;generalize put6 w1 g v0 v1 v2 v3 v4 v5=W at*;have hg4:=qib W A B (.cells #[.int .i64 3,.int .i64 0,.bool false,.string ⟨#[113,117,111,116,101]⟩,.int .i64 0,.slice none 0 0,.int .i64 x.k,.int .i64 x.n,.bool x.tr,.string x.tx,.int .i64 x.m,.slice x.a x.len x.cap] 134 (0,0)) C;exact ResN.quote (((((h1.alloc _).alloc _).alloc _).alloc _).drew) (by omega) (qm6 W A B _ C _ hz) (Rep.turn hlo2 (fun g h=>by cases h) (Rep.kept hg4 (fun g h=>by cases h) h2)) hd (h3.kept hg4 (by simp))
theorem qln(b:Nat)(s:ByteArray)(p d:Nat)(r:Py.R)(w:World)(h:Rd b s p d w)(hd30:d<=30)(hG:GV w)(hb6:6<=b)
  (hD:∀w,Rd b s p d w->GV w->Calls prog 88 #[.pointer (some ⟨b,0,none⟩)] w fun e w'=>Res b s d r w e w'):
  Calls prog 150 #[.pointer (some ⟨b,0,none⟩)] w fun e w'=>ResN b s d (quoteR r) w e w':=by
 have hb:=h.lt;have HR:=hZ h;have HG:=hZ hG;have HD:=hZ hD;clear h hG hD;rcases r with⟨c,k⟩|⟨ts,rr⟩
 ·show Calls prog 150 #[.pointer (some ⟨b,0,none⟩)] w fun e w'=>ResN b s d (.inl (c,k)) w e w'
  go_enter func150,ntmps150
  go_wp2_with (go_at_call 88;refine(HD.out _ (by exact HR.out.alloc _) (by exact(HG.out.only ((Only.refl b w).alloc _) hb6 (by omega)))).mono ?_;rintro e w1 ⟨hO,N,rfl,hN0,hN,p',hR1⟩;refine Hid.out ?_)
  have hz1:w.heap.size+1<=w1.heap.size:=by have:=hO.size;simp at this;omega
  have hzl:w.heap.size<w1.heap.size:=by omega
  have HO1:=hZ (((Only.refl b w).alloc _).trans hO);have HR1:=hZ hR1;have hN9:w.heap.size+1<=N:=by simpa using hN0
  have HN:=hZ hN;obtain⟨⟨y0,k0⟩,⟨y1,k1⟩,⟨y2,k2⟩,⟨y3,k3⟩,⟨y4,k4⟩,⟨y5,k5⟩,kf⟩:=(Box.new w _ _ _ _ _ _).kept hO (by intro e;cases e;omega) (by simp);clear hO hN hN0 hR1;refine hZ ?_;go_wp2;refine bodyPost_ret (v:=.tuple #[El.nil.v,.pointer (some ⟨N,0,none⟩)]) (by simp[results,results150,go_sem, *]) rfl ?_;exact(Res.err HO1.out (Nat.le_refl _) (by omega) (by omega) HN.out rfl rfl HR1.out hb _ _ _ _ _ _).alloc _
 ·show Calls prog 150 #[.pointer (some ⟨b,0,none⟩)] w fun e w'=>ResN b s d (.inr ([.list (.sym Px.quoteT 0::ts)],rr)) w e w'
  go_enter func150,ntmps150
  go_wp2_with (go_at_call 88;refine(HD.out _ (by exact HR.out.alloc _) (by exact(HG.out.only ((Only.refl b w).alloc _) hb6 (by omega)))).mono ?_;rintro e w1 ⟨hO,x,t,rfl,rfl,hrep,hrd⟩;refine Hid.out ?_)
  have hz1:w.heap.size+1<=w1.heap.size:=by have:=hO.size;simp at this;omega
  have hzl:w.heap.size<w1.heap.size:=by omega
  have HO1:=hZ (((Only.refl b w).alloc _).trans hO);have HR1:=hZ hrd;have HRep:=hZ hrep;obtain⟨⟨y0,k0⟩,⟨y1,k1⟩,⟨y2,k2⟩,⟨y3,k3⟩,⟨y4,k4⟩,⟨y5,k5⟩,kf⟩:=(Box.new w _ _ _ _ _ _).kept hO (by intro e;cases e;omega) (by simp);clear hO hrep hrd;obtain⟨xk,xn,xtr,xtx,xm,xa,xlen,xcap⟩:=x;refine hZ ?_;go_wp2;have hzl2:w.heap.size<w1.heap.size+1:=by omega
  have hzl3:w.heap.size<w1.heap.size+1+1:=by omega
  have hzl4:w.heap.size<w1.heap.size+2:=by omega
  have hzl5:w.heap.size<w1.heap.size+1+1+1:=by omega
  have hzl6:w.heap.size<w1.heap.size+3:=by omega
  have kc:∀o1 o2 o3 o4:Obj,∀i:Nat,((((w1.alloc o1).alloc o2).alloc o3).alloc o4).cell? ⟨w.heap.size,i,none⟩=w1.cell? ⟨w.heap.size,i,none⟩:=by
   intro o1 o2 o3 o4 i;exact(((((Below.refl (w.heap.size+1) w1).alloc (by omega) _).alloc (by simp;omega) _).alloc (by simp;omega) _).alloc (by simp;omega) _).cell (p:=⟨w.heap.size,i,none⟩) (by simp)
  have kz:∀o1 o2 o3 o4:Obj,∀i:Nat,((((w1.alloc o1).alloc o2).alloc o3).alloc o4).frozen? ⟨w.heap.size,i,none⟩=false:=by
   intro o1 o2 o3 o4 i;rw[(((((Below.refl (w.heap.size+1) w1).alloc (by omega) _).alloc (by simp;omega) _).alloc (by simp;omega) _).alloc (by simp;omega) _).frozen (p:=⟨w.heap.size,i,none⟩) (by simp)];exact kf i
  go_region_with (first|(go_at_call 239;refine(qi0 _ _).mono ?_;rintro e w2 ⟨rfl,rfl⟩)|(go_at_call 238;refine(qhj _ _ _ _).mono ?_;rintro e w2 ⟨rfl,rfl⟩))
  all_goals go_wp2
  all_goals
   refine bodyPost_ret (v:=.tuple #[El.v ⟨4,0,false,⟨#[]⟩,0,some ⟨w1.heap.size+1+1,0,none⟩,2,2⟩,.pointer none]) (by simp[results,results150,go_sem, *]) rfl ?_;exact qn9 (x:=⟨xk,xn,xtr,xtx,xm,xa,xlen,xcap⟩) HO1.out (Nat.le_refl _) (by simp) (by simp) hb hd30 HRep.out HR1.out _ _ _ _ _ _ _ _ _
end Rd
end
section
namespace Rd
open Go.RowKit
theorem L_suf(s:ByteArray)(q:Nat)(rr:List UInt8)(h:rr<:+L s q):L s (s.size-rr.length)=rr:=by
 have h2:rr<:+s.data.toList:=h.trans (by unfold L;exact List.drop_suffix _ _);unfold L;have:=List.suffix_iff_eq_drop.1 h2;rw[show s.size=s.data.toList.length from by simp];exact this.symm
def Bl(v:Value):Nat->Prop:=fun k=>v.ownBlock=some k
structure Mem (lo m:Nat) (own:Nat->Prop) (w:World) (es:List El) (ts:List Dt):Prop where
 len:es.length=ts.length
 all:∀(i:Nat) (x:El) (u:Dt),es[i]? =some x->ts[i]? =some u->Rep lo own w m x u
theorem Mem.nil(lo m:Nat)(own:Nat->Prop)(w:World):Mem lo m own w [] []:=⟨rfl,fun i x u h=>by simp at h⟩
theorem Mem.kept{lo m:Nat}{own:Nat->Prop}{row:Option Nat}{w w':World}{es:List El}{ts:List Dt}(h:Mem lo m own w es ts)(hg:w.grownBy w' row)(hr:∀g,row=some g->g<lo\/own g):Mem lo m own w' es ts:=
 ⟨h.len,fun i x u h1 h2=>Rep.kept hg hr (h.all i x u h1 h2)⟩
theorem Mem.turn{lo m:Nat}{own own':Nat->Prop}{w:World}{es:List El}{ts:List Dt}(h:Mem lo m own w es ts)(ho:∀g,own' g->own g\/w.heap.size<=g\/g<lo):Mem lo m own' w es ts:=
 ⟨h.len,fun i x u h1 h2=>Rep.turn (Nat.le_refl _) ho (h.all i x u h1 h2)⟩
theorem Mem.snoc{lo m:Nat}{own:Nat->Prop}{w:World}{es:List El}{ts:List Dt}(h:Mem lo m own w es ts){x:El}{t:Dt}(hx:Rep lo own w m x t):Mem lo m own w (es++[x]) (ts++[t]):=by
 refine⟨by simp[h.len],fun i y u h1 h2=>?_⟩;rcases Nat.lt_trichotomy i es.length with hi|hi|hi
 ·rw[List.getElem?_append_left hi]at h1;rw[List.getElem?_append_left (by rw[<-h.len];exact hi)]at h2;exact h.all i y u h1 h2
 ·subst hi;rw[List.getElem?_append_right (Nat.le_refl _)]at h1;rw[h.len,List.getElem?_append_right (Nat.le_refl _)]at h2;simp at h1 h2;subst h1;subst h2;exact hx
 ·rw[List.getElem?_eq_none (by simp;omega)]at h1;cases h1
def DatumSaid(F:Nat):Prop:=∀(b:Nat) (s:ByteArray) (p d:Nat) (w:World),Rd b s p d w->p<=s.size->s.size<=1200->d<=30->GV w->6<=b->2*(s.size-p)+1<=F->
 Calls prog 88 #[.pointer (some ⟨b,0,none⟩)] w fun e w'=>Res b s d (Py.rd F false d (L s p)) w e w'
def listR(r:Py.R):Py.R:=match r with
 | .inl e=>.inl e
 | .inr (xs,rr)=>.inr ([.list xs],rr)
theorem info134:(prog.info? 134).map (fun i=>(i.zero,i.size,i.bytes))=some (some (.agg #[.int .i64 0,.int .i64 0,.bool false,.string ⟨#[]⟩,.int .i64 0,.slice none 0 0]),6,72):=by kernel_rfl
theorem qrq{w:World}{lo:Nat}{v:Value}{n:Nat}{xs:List Value}(h:w.ownsRow lo 134 6 v n xs):∃a cap,v=.slice a n cap:=by
 rcases h.2 with⟨h1,h2⟩|⟨g,cap,cur,h1,_⟩
 ·subst h2;exact⟨_,_,h1⟩
 ·exact⟨_,_,h1⟩
theorem ResN.list{b:Nat}{s:ByteArray}{d p lo:Nat}{w W:World}{a:Option Addr}{cap:Nat}{es:List El}{ts:List Dt}{rr:List UInt8}(hO:Only b w W)(hlo:w.heap.size<=lo)
  (hown:W.ownsRow lo 134 6 (.slice a es.length cap) es.length (es.flatMap El.cells))(hmem:Mem lo (32-d) (Bl (Value.slice a es.length cap)) W es ts)(hd:d<=30)(hR:Rd b s p d W)(hp:p=s.size-rr.length):
  ResN b s d (.inr ([.list ts],rr)) w (.returned (.tuple #[El.v ⟨4,0,false,⟨#[]⟩,0,a,es.length,cap⟩,.pointer none])) W:=by
 subst hp;refine⟨hO,⟨4,0,false,⟨#[]⟩,0,a,es.length,cap⟩,_,rfl,rfl,?_,hR⟩;rw[show 33-d=(32-d)+1 from by omega];exact .inr (.inr (.inr (.inr ⟨rfl,es,ts,rfl,hmem.len,⟨rfl,qdj hown hlo,fun g h=>by cases h⟩,fun i x u h1 h2=>Rep.turn hlo (fun g h=>by cases h) (hmem.all i x u h1 h2)⟩)))
theorem ResN.alloc{b:Nat}{s:ByteArray}{d:Nat}{r:Py.R}{w w':World}{e:Ending}(h:ResN b s d r w e w')(o:Obj):ResN b s d r w e (w'.alloc o):=by
 rcases r with⟨c,k⟩|⟨ts,rr⟩
 ·obtain⟨hO,N,he,hN0,hN,p',hR⟩:=h;exact⟨hO.alloc o,N,he,hN0,by rw[Below.heap_alloc _ _ _ (Array.getElem?_eq_some_iff.1 hN).1];exact hN,p',hR.alloc o⟩
 ·obtain⟨hO,x,t,ht,he,hrep,hR⟩:=h;exact⟨hO.alloc o,x,t,ht,he,Rep.kept (World.grownBy_alloc w' o none) (fun g h=>by cases h) hrep,hR.alloc o⟩
theorem qr2{b:Nat}{s:ByteArray}{d p g:Nat}{w W:World}{a:Option Addr}{cap:Nat}{es:List El}{ts:List Dt}{rr:List UInt8}(hO:Only b w W)(hg:w.heap.size=g)(hb:b<w.heap.size)
  (hown:W.ownsRow (g+1) 134 6 (.slice a es.length cap) es.length (es.flatMap El.cells))(hmem:Mem (g+1) (32-d) (Bl (Value.slice a es.length cap)) W es ts)(hd:d<=30)(hR:Rd b s p d W)(hp:p=s.size-rr.length)(v0 v1 v2 v3 v4 v5:Value):
  ResN b s d (.inr ([.list ts],rr)) w (.returned (.tuple #[El.v ⟨4,0,false,⟨#[]⟩,0,a,es.length,cap⟩,.pointer none])) (put6 W g v0 v1 v2 v3 v4 v5):=by
 have hp5:=qbo W g v0 v1 v2 v3 v4 v5;refine ResN.list (lo:=g+1) (hO.new hp5 (by omega)) (by omega) (hown.kept hp5 ?_) (hmem.kept hp5 (fun g' h=>by cases h;left;omega)) hd (hR.kept hp5 (by intro e;cases e;omega)) hp;cases hv:(Value.slice a es.length cap).ownBlock with
 |none=>exact .inl rfl
 |some k=>right;intro e;cases e;have:=(hown.lt _ hv).1;omega
def LRel(F b:Nat)(s:ByteArray)(p d:Nat)(w:World)(mv:Value)(wr:World):Prop:=
 ∃(q f:Nat) (es:List El) (ts:List Dt),p<=q/\q<=s.size/\Px.skip false (L s q)=L s q/\Rd b s q d wr/\Only b w wr/\Box w.heap.size wr/\w.heap.size<wr.heap.size/\
  wr.ownsRow (w.heap.size+1) 134 6 mv es.length (es.flatMap El.cells)/\Mem (w.heap.size+1) (32-d) (Bl mv) wr es ts/\es.length<=q/\f<=F/\2*(s.size-q)+2<=f/\
  Py.rd F true d (L s p)=Py.pre ts (Py.rd f true d (L s q))
theorem qf8{w w':World}{lo b:Nat}{v:Value}{n:Nat}{xs:List Value}(h:w.ownsRow lo 134 6 v n xs)(hO:Only b w w')(hb:b<lo):w'.ownsRow lo 134 6 v n xs:=by
 refine h.kept hO ?_;cases hv:v.ownBlock with
 |none=>exact .inl rfl
 |some k=>right;intro e;cases e;have:=(h.lt _ hv).1;omega
theorem Mem.only{lo m b:Nat}{own:Nat->Prop}{w w':World}{es:List El}{ts:List Dt}(h:Mem lo m own w es ts)(hO:Only b w w')(hb:b<lo):Mem lo m own w' es ts:=
 h.kept hO (fun g e=>by cases e;left;exact hb)
theorem Only.newO{b:Nat}{row:Option Nat}{w w' w2:World}(h:Only b w w')(hg:w'.grownBy w2 row)(hn:∀g,row=some g->w.heap.size<=g):Only b w w2:=
 ⟨hg.os.trans h.os,hg.tape.trans h.tape,hg.output.trans h.output,Nat.le_trans h.size hg.size,fun i hi hne=>(hg.block i (Nat.lt_of_lt_of_le hi h.size) (by intro e;have:=hn i e.symm;omega)).trans (h.block i hi hne)⟩
theorem Mem.grow{lo m:Nat}{v:Value}{g H:Nat}{w w':World}{es:List El}{ts:List Dt}(h:Mem lo m (Bl v) w es ts)(hg:w.grownBy w' v.ownBlock)(hat:v.ownBlock=some g\/g=H)(hH:w.heap.size=H){sl:Value}(hsl:sl.ownBlock=some g)
  {x:El}{t:Dt}{lo2:Nat}(hx:Rep lo2 NoB w m x t)(hlo:lo<=lo2)(hv:∀k,v.ownBlock=some k->k<lo2):Mem lo m (Bl sl) w' (es++[x]) (ts++[t]):=by
 have h1:Mem lo m (fun k=>Bl v k\/k=g) w es ts:=h.turn (fun k hk=>by
  rcases hk with hk|hk
  ·exact .inl hk
  ·subst hk;rcases hat with ha|ha
   ·exact .inl ha
   ·right;left;omega)
 have h3:Rep lo (fun k=>Bl v k\/k=g) w m x t:=Rep.turn hlo (fun k hk=>by
  right;rcases hk with hk|hk
  ·right;exact hv k hk
  ·subst hk;rcases hat with ha|ha
   ·right;exact hv _ ha
   ·left;omega) hx
 have h4:=(h1.snoc h3).kept hg (fun k hk=>.inr (.inl hk));exact h4.turn (fun k hk=>.inl (.inr (by unfold Bl at hk;rw[hsl]at hk;cases hk;rfl)))
theorem qr3(F b:Nat)(s:ByteArray)(p d:Nat)(w:World)(h:Rd b s p d w)(hp:p<=s.size)(hs:s.size<=1200)(hd30:d<=30)(hG:GV w)(hb6:6<=b)(hF:2*(s.size-p)+2<=F)
  (hD:∀F',F'<F->DatumSaid F'):
  Calls prog 149 #[.pointer (some ⟨b,0,none⟩)] w fun e w'=>ResN b s d (listR (Py.rd F true d (L s p))) w e w':=by
 have hb:=h.lt;have HR:=hZ h;have HG:=hZ hG;have HD:=hZ hD;clear h hG hD;go_enter func149,ntmps149
 go_wp2_with (go_at_call 86;refine(qa2 b s p d _ (HR.out.alloc _) hp hs).mono ?_;rintro e w1 ⟨rfl,q0,hpq0,hq0,hsk0,hR0,hO0⟩;refine Hid.out ?_)
 have HR0:=hZ hR0;have HO0:=hZ (((Only.refl b w).alloc _).trans hO0);have hz0:w.heap.size<w1.heap.size:=by have:=hO0.size;simp at this;omega
 have HX0:=hZ ((Box.new w _ _ _ _ _ _).kept hO0 (by intro e;cases e;omega) (by simp));have HSK0:=hZ hsk0;clear hR0 hO0 hsk0;refine hZ ?_;go_wp2;go_loopw [4] (LRel F b s p d w) (fun _ wr=>s.size-posOf b wr)
 case atStart=>exact⟨q0,F,[],[],hpq0,hq0,by rw[<-HSK0.out,Px.skip_idem],HR0.out,HO0.out,HX0.out,hz0,World.ownsRow_nil _ _ _ _,Mem.nil _ _ _ _,by simp,Nat.le_refl _,by omega,by rw[<-HSK0.out,Py.rd_skip,Py.pre_nil]⟩
 case round=>
  obtain⟨q,f,es,ts,hpq,hq,hsk,hR,hO,hX,hz,hown,hmem,hle,hfF,hfq,heq⟩:=hrel;obtain⟨f,rfl⟩:∃f',f=f'+1:=⟨f-1,by omega⟩;obtain⟨i0,hi,hz0',hz1',hz2'⟩:=info_parts info134;have HRq:=hZ hR;have HO:=hZ hO;have HX:=hZ hX;have HOwn:=hZ hown;have HMem:=hZ hmem;have HEq:=hZ heq;have HSk:=hZ hsk;have HPos:Hid (posOf b wr=q):=hR.pos;clear hR hO hX hmem heq hsk hown;by_cases hcl:∃hlt:q<s.size,((s[q].toNat:Int)==41)=true
  ·obtain⟨hlt,hc⟩:=hcl;have h1':=HRq.out.c1;have hf':=HRq.out.fz 1;have hb':=HRq.out.lt;obtain⟨a,cap,rfl⟩:=qrq HOwn.out;have HT:Hid (listR (Py.rd F true d (L s p))=.inr ([.list ts],L s (q+1))):=by
    show _=_;rw[HEq.out,L_lt s q hlt,Py.rd_true_close f d _ _ (by have:=beq_iff_eq.1 hc;omega)];simp[Py.pre,listR]
   obtain⟨⟨y0,k0⟩,⟨y1,k1⟩,⟨y2,k2⟩,⟨y3,k3⟩,⟨y4,k4⟩,⟨y5,k5⟩,kf⟩:=HX.out;have hbn:¬b=w.heap.size:=by omega
   have hbn':¬w.heap.size=b:=by omega
   go_wp2_with (first|(go_at_call 237;refine(qbj b s q d _ _ HRq.out hlt).mono ?_;rintro e w' ⟨rfl,n1,rfl⟩)|(go_at_call 238;refine(qhj _ _ _ _).mono ?_;rintro e w2 ⟨rfl,rfl⟩))
   refine bodyPost_ret (v:=.tuple #[El.v ⟨4,0,false,⟨#[]⟩,0,a,es.length,cap⟩,.pointer none]) (by simp[results,results149,go_sem, *]) rfl ?_;rw[HT.out];have hst:Only b wr ((wr.drewN n1).setCell ⟨b,1,none⟩ (Value.int IntKind.i64 (↑q+1))):=((Only.refl b wr).drewN _).set _ _;exact(qr2 (HO.out.trans hst) rfl hb (qf8 HOwn.out hst (by omega)) (HMem.out.only hst (by omega)) hd30 ((HRq.out.drewN _).set1 (q+1) _ (by omega)) (by rw[qb3];omega) _ _ _ _ _ _).alloc _
  ·have hno:∀c r,L s q=c::r->c.toNat≠41:=by
    intro c r e h41;have hlt:q<s.size:=by
     rcases Nat.lt_or_ge q s.size with h'|h'
     ·exact h'
     ·rw[qgz s q h']at e;cases e
    rw[L_lt s q hlt]at e;have hc:s[q]=c:=by injection e
    exact hcl ⟨hlt,by rw[hc,h41];rfl⟩
   have hst:∀w0,Rd b s q d w0->Calls prog 237 #[.pointer (some ⟨b,0,none⟩),.int .u8 41] w0 fun e w'=>e=.returned (.bool false)/\∃n,w'=w0.drewN n:=by
    intro w0 hR0;by_cases hlt:q<s.size
    ·have hc:((s[q].toNat:Int)==41)=false:=by
      cases hc:((s[q].toNat:Int)==41)with
      |false=>rfl
      |true=>exact absurd ⟨hlt,hc⟩ hcl
     have:=qbj b s q d 41 w0 hR0 hlt;rw[hc]at this;exact this
    ·exact qfg b s q d 41 w0 hR0 (by omega)
   have HSt:=hZ hst;have HNo:=hZ hno;clear hst hno hcl;have HDf:=hZ (HD.out f (by omega) b s q d);cases hr:Py.rd f false d (L s q)with
   |inl ck=>
    obtain⟨c,k⟩:=ck;have HT:Hid (listR (Py.rd F true d (L s p))=.inl (c,k)):=by
     show _=_;rw[HEq.out,Py.rd_true_bad f d _ HSk.out HNo.out (c,k) hr (by omega)];rfl
    have HDe:Hid (∀w0,Rd b s q d w0->GV w0->Calls prog 88 #[.pointer (some ⟨b,0,none⟩)] w0 fun e w'=>Res b s d (.inl (c,k)) w0 e w'):=by
     intro w0 h1 h2;have:=HDf.out w0 h1 hq hs hd30 h2 hb6 (by omega);rw[hr]at this;exact this
    clear hr HDf;go_wp2_with (first|(go_at_call 237;refine(HSt.out _ HRq.out).mono ?_;rintro e w' ⟨rfl,n1,rfl⟩)|(go_at_call 88;refine(HDe.out _ (by exact HRq.out.drewN _) (by exact(HG.out.only (HO.out.drewN _) hb6 (by omega)))).mono ?_;rintro e w1 ⟨hO,N,rfl,hN0,hN,p',hR1⟩;refine Hid.out ?_))
    have hz1:wr.heap.size<=w1.heap.size:=by have:=hO.size;simpa using this
    have hzl:w.heap.size<w1.heap.size:=by omega
    have HO1:=hZ ((HO.out.drewN _).trans hO);have HR1:=hZ hR1;have hN9:w.heap.size+1<=N:=by simp at hN0;omega
    have HN:=hZ hN;obtain⟨⟨y0,k0⟩,⟨y1,k1⟩,⟨y2,k2⟩,⟨y3,k3⟩,⟨y4,k4⟩,⟨y5,k5⟩,kf⟩:=(HX.out.drewN _).kept hO (by intro e;cases e;omega) (by simpa using hz);clear hO hN hN0 hR1;refine hZ ?_;go_wp2;refine bodyPost_ret (v:=.tuple #[El.nil.v,.pointer (some ⟨N,0,none⟩)]) (by simp[results,results149,go_sem, *]) rfl ?_;rw[HT.out];exact(Res.err HO1.out (Nat.le_refl _) (by omega) (by omega) HN.out rfl rfl HR1.out hb _ _ _ _ _ _).alloc _
   |inr xr=>
    obtain⟨xs,rr⟩:=xr;obtain⟨hsuf,hlen,hone⟩:=Py.rd_short f false d (L s q) xs rr hr;obtain⟨t,rfl⟩:=hone rfl;have HT:=hZ (Py.rd_true_more f d _ HSk.out HNo.out _ _ hr);have HDe:Hid (∀w0,Rd b s q d w0->GV w0->Calls prog 88 #[.pointer (some ⟨b,0,none⟩)] w0 fun e w'=>Res b s d (.inr ([t],rr)) w0 e w'):=by
     intro w0 h1 h2;have:=HDf.out w0 h1 hq hs hd30 h2 hb6 (by omega);rw[hr]at this;exact this
    have hLr:=L_suf s q rr hsuf;have HLr:=hZ hLr;rw[qb3]at hlen;clear hr HDf hsuf hLr hone;go_wp2_with (first|(go_at_call 237;refine(HSt.out _ HRq.out).mono ?_;rintro e w' ⟨rfl,n1,rfl⟩)|(go_at_call 88;refine(HDe.out _ (by exact HRq.out.drewN _) (by exact(HG.out.only (HO.out.drewN _) hb6 (by omega)))).mono ?_;rintro e w1 ⟨hO,x,t',ht,rfl,hrep,hrd⟩;refine Hid.out ?_))
    obtain rfl:t'=t:=(List.cons.inj ht).1.symm;clear ht;have hz1:wr.heap.size<=w1.heap.size:=by have:=hO.size;simpa using this
    have hzl:w.heap.size<w1.heap.size:=by omega
    have hOr:Only b wr w1:=((Only.refl b wr).drewN n1).trans hO;have HO1:=hZ (HO.out.trans hOr);have HR1:=hZ hrd;have HX1:=hZ (HX.out.kept hOr (by intro e;cases e;omega) hz);have hown1:=qf8 HOwn.out hOr (by omega);have HMem1:=hZ (HMem.out.only hOr (by omega));have HRep:=hZ hrep;have HOwn1:=hZ hown1;have HV:Hid (∀k,u4.ownBlock=some k->k<wr.heap.size):=fun k hk=>(HOwn.out.lt k hk).2
    have hb1:b<w1.heap.size:=hrd.lt;clear hO hOr hrd hrep hown1 HOwn HMem HDe;obtain⟨xk,xn,xtr,xtx,xm,xa,xlen,xcap⟩:=x;refine hZ ?_;go_wp2_with (at_builtin;refine wpList_append_lies _ rfl _ _ 132 rfl (w.heap.size+1) 134 i0 (.agg #[.int .i64 0,.int .i64 0,.bool false,.string ⟨#[]⟩,.int .i64 0,.slice none 0 0]) 6 72 underlying132 hi hz0' hz1' hz2' rfl (by decide) _ _ _ rfl ((HOwn1.out.alloc _).alloc _) ⟨w1.heap.size+1,0,none⟩ 1 1 [.int .i64 xk,.int .i64 xn,.bool xtr,.string xtx,.int .i64 xm,.slice xa xlen xcap] rfl rfl ?c1 ?c2 (by decide) ?c3 ?c4 ?c5 (w1.heap.size+1+1) ?c6 ?_)
    case c1=>exact World.news_of_block (cs:=#[.int .i64 xk,.int .i64 xn,.bool xtr,.string xtx,.int .i64 xm,.slice xa xlen xcap]) (new2 _ _ _)
    case c2=>intro u hu;simp at hu;rcases hu with rfl|rfl|rfl|rfl|rfl|rfl <;> rfl
    case c3=>unfold maxLen;omega
    case c4=>omega
    case c5=>simp;omega
    case c6=>simp
    intro g cap w3 hown3 hgrow3 hat3 hlt3;refine Hid.out ?_;have HO3:=hZ (((HO1.out.alloc _).alloc _).newO hgrow3 (fun k h=>by have:=(HOwn1.out.lt k h).1;omega));have HR3:=hZ (((HR1.out.alloc _).alloc _).kept hgrow3 (by intro e;have:=(HOwn1.out.lt b e.symm).1;omega));have HX3:=hZ (((HX1.out.kept (World.grownBy_alloc _ _ none) (by simp) hzl).kept (World.grownBy_alloc _ _ none) (by simp) (by simp;omega)).kept hgrow3 (by intro e;have:=(HOwn1.out.lt _ e.symm).1;omega) (by simp;omega));have hz3:w.heap.size<w3.heap.size:=by have:=hgrow3.size;simp at this;omega
    have hga:=World.grownBy_alloc w1 (Obj.cells #[Value.int IntKind.i64 xk,Value.int IntKind.i64 xn,Value.bool xtr,Value.string xtx,Value.int IntKind.i64 xm,Value.slice xa xlen xcap] 134) none;have hgb:=World.grownBy_alloc (w1.alloc (Obj.cells #[Value.int IntKind.i64 xk,Value.int IntKind.i64 xn,Value.bool xtr,Value.string xtx,Value.int IntKind.i64 xm,Value.slice xa xlen xcap] 134)) (Obj.cells #[Value.int IntKind.i64 xk,Value.int IntKind.i64 xn,Value.bool xtr,Value.string xtx,Value.int IntKind.i64 xm,Value.slice xa xlen xcap] 134) none;have HMem3:=hZ (Mem.grow (sl:=.slice (some ⟨g,0,none⟩) (es.length+1) cap) (x:=⟨xk,xn,xtr,xtx,xm,xa,xlen,xcap⟩) (lo2:=wr.heap.size) ((HMem1.out.kept hga (fun g h=>by cases h)).kept hgb (fun g h=>by cases h)) hgrow3 hat3 (by simp) rfl (Rep.kept hgb (fun g h=>by cases h) (Rep.kept hga (fun g h=>by cases h) HRep.out)) (by omega) HV.out);have HOwn3:=hZ hown3;have HX4:Hid (List.flatMap El.cells es++[Value.int IntKind.i64 xk,Value.int IntKind.i64 xn,Value.bool xtr,Value.string xtx,Value.int IntKind.i64 xm,Value.slice xa xlen xcap]=List.flatMap El.cells (es++[⟨xk,xn,xtr,xtx,xm,xa,xlen,xcap⟩])):=by
     show _=_;simp[El.cells]
    clear hown3 hgrow3 hat3 hlt3 hga hgb HOwn1 HMem1 HX1 HR1 HO1 HRep HV;refine hZ ?_;go_wp2_with (go_at_call 86;refine(qa2 b s (s.size-rr.length) d _ HR3.out (by omega) hs).mono ?_;rintro e w4 ⟨rfl,q2,hq21,hq22,hsk2,hR4,hO4⟩;refine Hid.out ?_)
    have HO4:=hZ (HO3.out.trans hO4);have HR4:=hZ hR4;have HX5:=hZ (HX3.out.kept hO4 (by intro e;cases e;omega) hz3);have hz4:w.heap.size<w4.heap.size:=by have:=hO4.size;omega
    have HOwn4:=hZ (qf8 HOwn3.out hO4 (by omega));have HMem4:=hZ (HMem3.out.only hO4 (by omega));have HSk2:=hZ hsk2;have HPos4:Hid (posOf b w4=q2):=hR4.pos;clear hR4 hO4 hsk2;refine hZ ?_;go_wp2;go_roundw
    case rel=>
     refine⟨q2,f,es++[⟨xk,xn,xtr,xtx,xm,xa,xlen,xcap⟩],ts++[t'],by omega,hq22,by rw[<-HSk2.out,Px.skip_idem],HR4.out,HO4.out,HX5.out,hz4,?_,HMem4.out,by simp;omega,by omega,by omega,?_⟩
     ·rw[<-HX4.out];simpa using HOwn4.out
     ·rw[HEq.out,HT.out,Py.pre_pre,<-HSk2.out,HLr.out]
    case measure=>
     have e1:=HPos.out;have e2:=HPos4.out;rw[e1,e2];omega
end Rd
end
end Go.Proofs.YtldaocpojcfljaaGreatDoor
