import Derived.Test.YtldaocpojcfljaaGreatDoorC04
set_option maxRecDepth 100000
set_option maxHeartbeats 4000000
namespace Go.Proofs.YtldaocpojcfljaaGreatDoor
open Tryz hiding parts
section
namespace Rd
open Go.RowKit
structure Scan (P:UInt8→Bool) (s:ByteArray) (a q:Nat):Prop where
 le:a≤q
 lim:q≤s.size
 all:∀i (h:i<s.size),a≤i→i<q→P s[i]=true
theorem Scan.refl (P:UInt8→Bool) (s:ByteArray) (a:Nat) (h:a≤s.size):Scan P s a a:=⟨Nat.le_refl _,h,fun i _ h1 h2=>by omega⟩
theorem Scan.next {P:UInt8→Bool} {s:ByteArray} {a q:Nat} (h:Scan P s a q) (hq:q<s.size) (hP:P s[q]=true):Scan P s a (q+1):=
 ⟨by have:=h.le;omega,by omega,fun i hi h1 h2=>by
  by_cases e:i=q
  ·subst e;exact hP
  ·exact h.all i hi h1 (by omega)⟩
theorem qku (s:ByteArray) (a q:Nat):(s.extract a q).data.toList=(L s a).take (q-a):=by
 unfold L;rw [ByteArray.data_extract,Array.toList_extract,List.extract_eq_take_drop]
theorem Scan.ends {P:UInt8→Bool} {s:ByteArray}:∀(n a q:Nat),q=a+n→Scan P s a q→(∀h:q<s.size,P s[q]=false)→(L s a).takeWhile P=(L s a).take (q-a)∧(L s a).dropWhile P=L s q
 |0,a,q,e,h,hq=>by
  have e':q=a:=by omega
  subst e'
  by_cases hl:q<s.size
  ·rw [L_lt s q hl];simp [List.takeWhile,List.dropWhile,hq hl]
  ·rw [qgz s q (by omega)];simp
 |n+1,a,q,e,h,hq=>by
  have hl:a<s.size:=by have:=h.lim;omega
  have hP:=h.all a hl (Nat.le_refl _) (by omega)
  have ih:=Scan.ends n (a+1) q (by omega) ⟨by omega,h.lim,fun i hi h1 h2=>h.all i hi (by omega) h2⟩ hq
  rw [L_lt s a hl]
  rw [show q-a=(q-(a+1))+1 from by omega]
  simp [List.takeWhile,List.dropWhile,hP,ih.1,ih.2]
theorem Scan.fin {P:UInt8→Bool} {s:ByteArray} {a q:Nat} (h:Scan P s a q) (hq:∀h:q<s.size,P s[q]=false):(L s a).takeWhile P=(s.extract a q).data.toList∧(L s a).dropWhile P=L s q:=by
 have:=Scan.ends (q-a) a q (by have:=h.le;omega) h hq
 rw [qku s a q];exact this
theorem str_end {s:ByteArray} {a q:Nat} (h:Scan Px.strB s a q) (e:q=s.size):Py.str (L s a)=.inl (3,0):=by
 have f:=h.fin (fun h'=>by omega)
 unfold Py.str;rw [f.2,qgz s q (by omega)]
theorem qnn {s:ByteArray} {a q:Nat} (h:Scan Px.strB s a q) (hl:q<s.size) (hc:((s[q].toNat:Int)==34)=true):Py.str (L s a)=.inr ([.str (s.extract a q).data.toList],L s (q+1)):=by
 have e:s[q].toNat=34:=by have:=beq_iff_eq.1 hc;omega
 have f:=h.fin (fun h'=>by unfold Px.strB;simp [e])
 unfold Py.str;rw [f.1,f.2,L_lt s q hl];simp [e]
theorem str_bad {s:ByteArray} {a q:Nat} (h:Scan Px.strB s a q) (hl:q<s.size) (hb:Px.strB s[q]=false) (hc:((s[q].toNat:Int)==34)=false):Py.str (L s a)=.inl (2,s.size-q):=by
 have e:s[q].toNat≠34:=by have:=beq_eq_false_iff_ne.1 hc;omega
 have f:=h.fin (fun h'=>hb)
 unfold Py.str;rw [f.2,L_lt s q hl];simp [e,qb3];omega
theorem qlg (b:Nat) (s:ByteArray) (p d:Nat) (w:World) (h:Rd b s p d w) (hp:p<s.size) (hs:s.size≤1200) (hd30:d≤30):
  Calls prog 151 #[.pointer (some ⟨b,0,none⟩)] w fun e w'=>Res b s d (Py.str (L s (p+1))) w e w':=by
 have h1:=h.c1
 have hf:=h.fz 1
 have hb:=h.lt
 have HR:Hid (Rd b s p d w):=h
 clear h
 go_enter func151,ntmps151
 go_wp2
 go_loopw [] (fun wr=>∃q,Scan Px.strB s (p+1) q∧Rd b s q d wr∧Only b w wr∧Box w.heap.size wr∧w.heap.size<wr.heap.size) (fun wr=>s.size-posOf b wr)
 case atStart=>exact⟨p+1,Scan.refl _ _ _ (by omega),(HR.out.set1 (p+1) _ (by omega)).alloc _,((Only.refl b w).set _ _).alloc _,Box.new1 w _ _ _ _ _ _ _ _,by simp⟩
 case round=>
  obtain⟨q,hS,hR,hO,hX,hz⟩:=hrel
  have h0':=hR.c0
  have h1':=hR.c1
  have hf':=hR.fz 1
  have hq:=hS.lim
  have hpq:=hS.le
  have HRq:=hZ hR
  have HO:=hZ hO
  have HX:=hZ hX
  have HS:=hZ hS
  have HPos:Hid (posOf b wr=q):=hR.pos
  clear hR hO hX hS
  by_cases hlt:q<s.size
  ·have hd:((q:Int)==(s.size:Int))=false:=by simp;omega
   cases hc:Px.strB s[q]
   ·cases cq:((s[q].toNat:Int)==34)
    ·have HT:Hid (Py.str (L s (p+1))=.inl (2,s.size-q)):=str_bad HS.out hlt hc cq
     go_wp2
     go_quiet ((first|(go_at_call 87;exact Calls.quiet_of (qah b s q d _ (HRq.out.drewN _)))|(go_at_call 240;exact Calls.quiet_of_same (qbe _ _))))
     go_wp2_with (first|(go_at_call 87;refine(qah b s q d _ (HRq.out.drewN _)).mono ?_;rintro e w' ⟨rfl,n1,rfl⟩)|(go_at_call 237;refine(qbj b s q d _ _ (HRq.out.drewN _) hlt).mono ?_;rintro e w' ⟨rfl,n2,rfl⟩)|(go_at_call 147;refine(qbb _ _ _).mono ?_;rintro e w' ⟨N,rfl,hN,hN2,hbl⟩;refine Hid.out ?_))
     have hO2:Only b w w':=Only.of (HO.out.drewN _) hbl
     have HR9:=hZ ((HRq.out.drewN _).below hbl (by first|omega|(simp;done)|(simp;omega)))
     have hx:Box w.heap.size w':=(HX.out.drewN _).below hbl (by simp;try omega)
     have hsz:w.heap.size+1≤N:=by simp at hN;omega
     obtain⟨⟨y0,k0⟩,⟨y1,k1⟩,⟨y2,k2⟩,⟨y3,k3⟩,⟨y4,k4⟩,⟨y5,k5⟩,kf⟩:=hx
     have HN2:=hZ hN2
     have HO2:=hZ hO2
     clear hN hN2 hbl hO2
     refine hZ ?_
     go_wp2
     refine bodyPost_ret (v:=.tuple #[El.nil.v,.pointer (some ⟨N,0,none⟩)]) (by simp [results,results151,go_sem, *]) rfl ?_
     rw [HT.out]
     exact Res.err HO2.out (Nat.le_refl _) (by omega) (by omega) HN2.out rfl (by omega) HR9.out (by omega) _ _ _ _ _ _
    ·have HT:Hid (Py.str (L s (p+1))=.inr ([.str (s.extract (p+1) q).data.toList],L s (q+1))):=qnn HS.out hlt cq
     go_wp2
     go_quiet ((first|(go_at_call 87;exact Calls.quiet_of (qah b s q d _ (HRq.out.drewN _)))|(go_at_call 240;exact Calls.quiet_of_same (qbe _ _))))
     go_wp2_with (first|(go_at_call 87;refine(qah b s q d _ (HRq.out.drewN _)).mono ?_;rintro e w' ⟨rfl,n1,rfl⟩)|(go_at_call 237;refine(qbj b s q d _ _ (HRq.out.drewN _) hlt).mono ?_;rintro e w' ⟨rfl,n2,rfl⟩)|(go_at_call 241;refine(qdv _ _).mono ?_;rintro e w1 ⟨rfl,hbl⟩;refine Hid.out ?_))
     go_quiet (fail)
     go_wp2_with (go_at_call 241;refine(qdv _ _).mono ?_;rintro e w1 ⟨rfl,hbl⟩;refine Hid.out ?_)
     have HR2:=hZ (((HRq.out.drewN _).set1 (q+1) _ (by omega)).below hbl (by simp;omega))
     have HO2:=hZ (Only.of ((HO.out.drewN _).set _ _) hbl)
     obtain⟨⟨y0,k0⟩,⟨y1,k1⟩,⟨y2,k2⟩,⟨y3,k3⟩,⟨y4,k4⟩,⟨y5,k5⟩,kf⟩:=((HX.out.drewN _).set (by omega) _).below hbl (by simp;omega)
     clear hbl
     refine hZ ?_
     go_wp2
     refine bodyPost_ret (v:=.tuple #[El.v ⟨2,0,false,s.extract (p+1) q,0,none,0,0⟩,.pointer none]) (by simp [results,results151,go_sem, *]) rfl ?_
     rw [HT.out]
     exact Res.ok HO2.out (Nat.le_refl _) (Nat.lt_succ_self _) hb (by rw [show 32-d=(31-d)+1 from by omega];exact .inr (.inr (.inl ⟨rfl,rfl,rfl,rfl,rfl⟩))) HR2.out (by rw [qb3];omega) _ _ _ _ _ _
   ·go_wp2
    go_quiet ((first|(go_at_call 87;exact Calls.quiet_of (qah b s q d _ (HRq.out.drewN _)))|(go_at_call 240;exact Calls.quiet_of_same (qbe _ _))))
    go_wp2
    go_roundw
    case rel=>exact⟨q+1,HS.out.next hlt hc,(HRq.out.drewN _).set1 _ _ (by omega),(HO.out.drewN _).set _ _,(HX.out.drewN _).set (by omega) _,by simpa using hz⟩
    case measure=>
     have e1:=HPos.out
     have e2:=((HRq.out.drewN nq).set1 (q+1) ((q:Int)+1) (by omega)).pos
     rw [e1,e2];omega
  ·have hd:((q:Int)==(s.size:Int))=true:=by simp;omega
   have HT:Hid (Py.str (L s (p+1))=.inl (3,0)):=str_end HS.out (by omega)
   go_wp2
   go_quiet ((first|(go_at_call 87;exact Calls.quiet_of (qah b s q d _ (HRq.out.drewN _)))|(go_at_call 240;exact Calls.quiet_of_same (qbe _ _))))
   go_wp2_with (first|(go_at_call 87;refine(qah b s q d _ (HRq.out.drewN _)).mono ?_;rintro e w' ⟨rfl,n1,rfl⟩)|(go_at_call 147;refine(qbb _ _ _).mono ?_;rintro e w' ⟨N,rfl,hN,hN2,hbl⟩;refine Hid.out ?_))
   have hO2:Only b w w':=Only.of (HO.out.drewN _) hbl
   have HR9:=hZ ((HRq.out.drewN _).below hbl (by first|omega|(simp;done)|(simp;omega)))
   have hx:Box w.heap.size w':=(HX.out.drewN _).below hbl (by simp;try omega)
   have hsz:w.heap.size+1≤N:=by simp at hN;omega
   obtain⟨⟨y0,k0⟩,⟨y1,k1⟩,⟨y2,k2⟩,⟨y3,k3⟩,⟨y4,k4⟩,⟨y5,k5⟩,kf⟩:=hx
   have HN2:=hZ hN2
   have HO2:=hZ hO2
   clear hN hN2 hbl hO2
   refine hZ ?_
   go_wp2
   refine bodyPost_ret (v:=.tuple #[El.nil.v,.pointer (some ⟨N,0,none⟩)]) (by simp [results,results151,go_sem, *]) rfl ?_
   rw [HT.out]
   exact Res.err HO2.out (Nat.le_refl _) (by omega) (by omega) HN2.out rfl (by omega) HR9.out (by omega) _ _ _ _ _ _
end Rd
end
section
namespace Rd
open Go.RowKit
theorem qif (l:List UInt8):Lib.trimPrefix l [45]=Px.unsign l:=by
 unfold Lib.trimPrefix Lib.hasPrefix Px.unsign
 cases l with
 |nil=>simp
 |cons c r=>
  by_cases h:c=45
  ·subst h;simp
  ·have h':¬c.toNat=45:=fun e=>h (by rw [←UInt8.toNat_inj];simpa using e)
   simp [h',Ne.symm h]
theorem qk9 (l:List UInt8):(Px.unsign l).length≤l.length:=by
 cases l with
 |nil=>simp [Px.unsign]
 |cons c r=>
  by_cases h:c.toNat=45
  ·simp [Px.unsign,h]
  ·simp [Px.unsign,h]
theorem qgy (u:ByteArray) (k:Nat) (h:k<u.size):(u.data.toList.take (k+1)).all Px.digB=((u.data.toList.take k).all Px.digB&&Px.digB u[k]):=by
 rw [List.take_succ_eq_append_getElem (by simpa using h),List.all_append];simp;rfl
theorem qj5 (u:ByteArray) (k:Nat) (h:k<u.size) (hd:Px.digB u[k]=false):u.data.toList.all Px.digB=false:=by
 rw [List.all_eq_false];exact⟨u[k],by show u.data[k]∈_;simp,by simp [hd]⟩
theorem qa7 (t:ByteArray) (w:World) (ht:t.size≤1200):
  Calls prog 246 #[.string t] w fun e w'=>e=.returned (.bool (Px.numB t.data.toList))∧w'=w:=by
 go_enter func246,ntmps246
 go_wp2_with (go_at_call 301;refine(Tryz.strings_TrimPrefix _ _ _).mono ?_;rintro e w' ⟨rfl,rfl⟩;refine Hid.out ?_)
 refine hZ ?_
 obtain⟨u,hu⟩:∃u:ByteArray,u=⟨(Lib.trimPrefix t.data.toList [45]).toArray⟩:=⟨_,rfl⟩
 have hul:u.data.toList=Px.unsign t.data.toList:=by rw [hu,←qif]
 have hsz:u.size≤1200:=by
  have e1:u.size=u.data.toList.length:=by simp
  have e2:t.size=t.data.toList.length:=by simp
  rw [e1,hul]
  have:=qk9 t.data.toList
  omega
 have HU:=hZ hul
 clear hul
 simp only [←hu]
 clear hu
 go_wp2
 go_loop [9] (fun i=>∃k:Nat,k≤u.size∧i=.int .i64 k∧(u.data.toList.take k).all Px.digB=true) (fun i=>u.size-(intOf i).toNat)
 case atStart=>exact⟨0,Nat.zero_le _,rfl,rfl⟩
 case round=>
  obtain⟨k,hk,rfl,hall⟩:=hrel
  have HA:=hZ hall
  clear hall
  by_cases hlt:k<u.size
  ·cases hd:Px.digB u[k]
   ·go_wp2_with (go_at_call 244;refine(qc2 _ _).mono ?_;rintro e w' ⟨rfl,rfl⟩)
    go_ret
    refine⟨?_,rfl⟩
    unfold Px.numB
    rw [←HU.out,qj5 u k hlt hd];rfl
   ·go_wp2_with (go_at_call 244;refine(qc2 _ _).mono ?_;rintro e w' ⟨rfl,rfl⟩)
    go_round
    case rel=>exact⟨k+1,by omega,by go_num,by rw [qgy u k hlt,HA.out,hd];rfl⟩
    case measure=>simp [intOf];omega
  ·go_wp2
   go_ret
   refine⟨?_,rfl⟩
   have e:(u.data.toList.take k)=u.data.toList:=List.take_of_length_le (by simp;omega)
   have:=HA.out
   rw [e]at this
   unfold Px.numB
   rw [←HU.out,this]
   show Ending.returned (Value.bool !u.toList.isEmpty)=_
   rw [Lib.toList_data];rfl
end Rd
end
section
namespace Rd
open Go.RowKit
theorem qb4 (M:Nat):∀(l:List UInt8) (acc:Nat),l.all Px.digB=true→(∃u,Lib.parseUintM M acc l=.ok u)∨Lib.parseUintM M acc l=.range
 | [],acc,_=>.inl ⟨acc,rfl⟩
 |c::r,acc,h=>by
  have h1:Px.digB c=true∧r.all Px.digB=true:=by simpa using h
  have hc:48≤c.toNat∧c.toNat≤57:=by simpa [Px.digB]using h1.1
  unfold Lib.parseUintM
  rw [if_pos hc]
  by_cases h2:1844674407370955162≤acc
  ·rw [if_pos h2];exact .inr rfl
  ·rw [if_neg h2]
   by_cases h3:M<acc*10+(c.toNat-48)
   ·rw [if_pos h3];exact .inr rfl
   ·rw [if_neg h3];exact qb4 M r _ h1.2
theorem qhg (l:List UInt8) (h:Px.numB l=true):(∃v,Lib.parseIntB 64 l=.ok v)∨Lib.parseIntB 64 l=.range:=by
 unfold Px.numB at h
 rw [Bool.and_eq_true]at h
 obtain⟨h1,h2⟩:=h
 cases l with
 |nil=>simp [Px.unsign]at h2
 |cons c r=>
  have hne:(if c.toNat=43∨c.toNat=45 then r else c::r)=Px.unsign (c::r):=by
   unfold Px.unsign
   by_cases e:c.toNat=45
   ·simp [e]
   ·have e3:¬c.toNat=43:=by
     intro e3
     have:Px.digB c=true∧r.all Px.digB=true:=by simpa [Px.unsign,e]using h1
     simp [Px.digB,e3]at this
    simp [e,e3]
  have hn:Px.unsign (c::r)≠[]:=by intro e;rw [e]at h2;simp at h2
  have hp:=qb4 (2 ^ 64-1) _ 0 h1
  have hq:Lib.parseUintB 64 (Px.unsign (c::r))=Lib.parseUintM (2 ^ 64-1) 0 (Px.unsign (c::r)):=by unfold Lib.parseUintB;rw [if_neg hn]
  unfold Lib.parseIntB
  simp only [hne,hq]
  rcases hp with⟨u,hu⟩|hu
  ·rw [hu]
   simp only
   split
   ·exact .inr rfl
   ·split
    ·exact .inr rfl
    ·exact .inl ⟨_,rfl⟩
  ·rw [hu];exact .inr rfl
def GV (w:World):Prop:=∃tp p,w.var? prog "strconv.ErrRange" =some #[.iface tp p]
theorem errRange_no:prog.globalNamed "strconv.ErrRange" =some 5:=by kernel_rfl
theorem Only.below {b B:Nat} {w w':World} (h:Only b w w') (hb:B≤b) (hs:B≤w.heap.size):Below B w w':=
 ⟨h.os,h.tape,h.output,h.size,fun k hk=>h.block k (by omega) (by intro e;cases e;omega)⟩
theorem GV.only {b:Nat} {w w':World} (h:GV w) (hO:Only b w w') (hb:6≤b) (hs:6≤w.heap.size):GV w':=by
 obtain⟨tp,p,h⟩:=h
 exact⟨tp,p,var?_below (hO.below hb hs) errRange_no (by omega) h⟩
theorem word_L {s:ByteArray} {p q:Nat} (h:Scan Px.wordB s p q) (hq:∀h:q<s.size,Px.wordB s[q]=false):Py.word (L s p)=Py.wordOf (s.extract p q).data.toList (L s q):=by
 unfold Py.word;rw [(h.fin hq).1,(h.fin hq).2]
theorem wlen {s:ByteArray} {p q:Nat} (h1:p≤q) (h2:q≤s.size):(s.extract p q).data.toList.length+(L s q).length=s.size-p:=by
 rw [qku,List.length_take,qb3,qb3];omega
theorem qef (u:ByteArray) (hmax:u.size≤9223372036854775806) (v:Int) (h:Lib.parseIntB 64 u.data.toList=.ok v) (w:World):
  Calls prog 247 #[.string u,.int .i64 10,.int .i64 64] w fun e w'=>e=.returned (.tuple #[.int .i64 v,.nilIface])∧Below w.heap.size w w':=by
 refine(Tryz.strconv_ParseInt_10_at64_ok u hmax v h w).mono ?_
 rintro e w1 ⟨rfl,hw1⟩
 refine⟨rfl,?_⟩
 rcases hw1 with rfl|⟨t,rfl⟩
 ·exact Below.refl _ _
 ·exact Lib.bytesWorld_below _ _ _
theorem qqi (b:Nat) (s:ByteArray) (p d:Nat) (w:World) (h:Rd b s p d w) (hp:p<s.size) (hs:s.size≤1200) (hd30:d≤30) (hG:GV w) (hb6:6≤b):
  Calls prog 154 #[.pointer (some ⟨b,0,none⟩)] w fun e w'=>Res b s d (Py.word (L s p)) w e w':=by
 have h1:=h.c1
 have hf:=h.fz 1
 have hb:=h.lt
 have HR:Hid (Rd b s p d w):=h
 have HG:=hZ hG
 clear h hG
 go_enter func154,ntmps154
 go_wp2
 go_loopw [] (fun wr=>∃q,Scan Px.wordB s p q∧Rd b s q d wr∧Only b w wr∧Box w.heap.size wr∧w.heap.size<wr.heap.size) (fun wr=>s.size-posOf b wr)
 case atStart=>exact⟨p,Scan.refl _ _ _ (by omega),HR.out.alloc _,(Only.refl b w).alloc _,Box.new w _ _ _ _ _ _,by simp⟩
 case round=>
  obtain⟨q,hS,hR,hO,hX,hz⟩:=hrel
  have h0':=hR.c0
  have h1':=hR.c1
  have hf':=hR.fz 1
  have hq:=hS.lim
  have hpq:=hS.le
  have HRq:=hZ hR
  have HO:=hZ hO
  have HX:=hZ hX
  have HS:=hZ hS
  have HPos:Hid (posOf b wr=q):=hR.pos
  clear hR hO hX hS
  by_cases hlt:q<s.size
  ·have hd:((q:Int)==(s.size:Int))=false:=by simp;omega
   cases hc:Px.wordB s[q]
   ·have hmark:=hc
    clear hmark
    have hT0:Py.word (L s p)=Py.wordOf (s.extract p q).data.toList (L s q):=word_L HS.out (fun _=>hc)
    have hwl:=wlen (s:=s) hpq hq
    go_wp2
    go_quiet ((first|(go_at_call 87;exact Calls.quiet_of (qah b s q d _ (HRq.out.drewN _)))|(go_at_call 153;exact Calls.quiet_of_same (qa0 _ _))))
    go_wp2
    go_quiet (fail)
    obtain⟨u,hu⟩:∃u,u=s.extract p q:=⟨_,rfl⟩
    rw [←hu]at hT0 hwl⊢
    have hule:u.size≤1200:=by rw [hu];simp;omega
    have HU:=hZ hu
    have HWL:=hZ hwl
    have HT0:=hZ hT0
    clear hu hwl hT0
    cases hn:Px.numB u.data.toList
    ·by_cases hlen:24<u.size
     ·have HT:Hid (Py.word (L s p)=.inl (4,s.size-p)):=by
       show _=_
       rw [HT0.out];unfold Py.wordOf;rw [hn,if_neg (by simp),if_pos (by simpa using hlen),HWL.out]
      go_wp2_with (first|(go_at_call 246;refine(qa7 _ _ (by omega)).mono ?_;rintro e w' ⟨rfl,rfl⟩)|(go_at_call 147;refine(qbb _ _ _).mono ?_;rintro e w' ⟨N,rfl,hN,hN2,hbl⟩;refine Hid.out ?_))
      have hO2:Only b w w':=Only.of (HO.out.drewN _) hbl
      have HR9:=hZ ((HRq.out.drewN _).below hbl (by first|omega|(simp;done)|(simp;omega)))
      have hx:Box w.heap.size w':=(HX.out.drewN _).below hbl (by first|omega|(simp;done)|(simp;omega))
      have hsz:w.heap.size+1≤N:=by first|omega|(simp at hN;omega)
      obtain⟨⟨y0,k0⟩,⟨y1,k1⟩,⟨y2,k2⟩,⟨y3,k3⟩,⟨y4,k4⟩,⟨y5,k5⟩,kf⟩:=hx
      have HN2:=hZ hN2
      have HO2:=hZ hO2
      clear hN hN2 hbl hO2
      refine hZ ?_
      go_wp2
      refine bodyPost_ret (v:=.tuple #[El.nil.v,.pointer (some ⟨N,0,none⟩)]) (by simp [results,results154,go_sem, *]) rfl ?_
      rw [HT.out]
      exact Res.err HO2.out (Nat.le_refl _) (by omega) (by omega) HN2.out rfl (by omega) HR9.out (by omega) _ _ _ _ _ _
     ·have HT:Hid (Py.word (L s p)=Py.closed (.sym u.data.toList 0) (L s q)):=by
       show _=_
       rw [HT0.out];unfold Py.wordOf;rw [hn,if_neg (by simp),if_neg (by simpa using hlen)]
      go_wp2_with (first|(go_at_call 246;refine(qa7 _ _ (by omega)).mono ?_;rintro e w' ⟨rfl,rfl⟩)|(go_at_call 239;refine(qdu _ _).mono ?_;rintro e w1 ⟨rfl,hbl⟩;refine Hid.out ?_))
      have HR1:=hZ ((HRq.out.drewN _).below hbl (by simp;omega))
      have HO1:=hZ (Only.of (HO.out.drewN _) hbl)
      have HX1:=hZ ((HX.out.drewN _).below hbl (by simp;omega))
      have hz1:w.heap.size+1≤w1.heap.size:=by have:=hbl.size;simp at this;omega
      clear hbl
      refine hZ ?_
      by_cases hcl:∀hlt:q<s.size,Px.endB s[q]=true
      ·have HC:Hid (Py.closed (.sym u.data.toList 0) (L s q)=.inr ([.sym u.data.toList 0],L s q)):=qbv s q _ hcl
       have HCl:=hZ hcl
       clear hcl
       go_wp2_with (go_at_call 242;refine(qb6 b s q d ⟨3,0,false,u,0,none,0,0⟩ _ HR1.out HCl.out (by omega)).mono ?_;rintro e w9 ⟨rfl,hbl⟩;refine Hid.out ?_)
       have HR2:=hZ (HR1.out.below hbl (by omega))
       have HO2:=hZ (Only.of HO1.out hbl)
       obtain⟨⟨y0,k0⟩,⟨y1,k1⟩,⟨y2,k2⟩,⟨y3,k3⟩,⟨y4,k4⟩,⟨y5,k5⟩,kf⟩:=HX1.out.below hbl (by omega)
       clear hbl
       refine hZ ?_
       go_wp2
       refine bodyPost_ret (v:=.tuple #[El.v ⟨3,0,false,u,0,none,0,0⟩,.pointer none]) (by simp [results,results154,go_sem, *]) rfl ?_
       rw [HT.out,HC.out]
       exact Res.ok HO2.out (Nat.le_refl _) (Nat.lt_succ_self _) hb (by rw [show 32-d=(31-d)+1 from by omega];exact .inr (.inr (.inr (.inl ⟨rfl,rfl,rfl⟩)))) HR2.out (by rw [qb3];omega) _ _ _ _ _ _
      ·have hcl':∃hlt:q<s.size,Px.endB s[q]=false:=by
        rcases Classical.not_forall.1 hcl with⟨a,ha⟩
        exact⟨a,by simpa using ha⟩
       obtain⟨hl2,he2⟩:=hcl'
       have HC:Hid (Py.closed (.sym u.data.toList 0) (L s q)=.inl (2,s.size-q)):=qch s q _ hl2 he2
       clear hcl
       go_wp2_with (go_at_call 242;refine(qct b s q d ⟨3,0,false,u,0,none,0,0⟩ _ HR1.out hl2 he2).mono ?_;rintro e w' ⟨N,rfl,hN,hN2,hbl⟩;refine Hid.out ?_)
       have hO2:Only b w w':=Only.of (HO1.out) hbl
       have HR9:=hZ ((HR1.out).below hbl (by first|omega|(simp;done)|(simp;omega)))
       have hx:Box w.heap.size w':=(HX1.out).below hbl (by first|omega|(simp;done)|(simp;omega))
       have hsz:w.heap.size+1≤N:=by first|omega|(simp at hN;omega)
       obtain⟨⟨y0,k0⟩,⟨y1,k1⟩,⟨y2,k2⟩,⟨y3,k3⟩,⟨y4,k4⟩,⟨y5,k5⟩,kf⟩:=hx
       have HN2:=hZ hN2
       have HO2:=hZ hO2
       clear hN hN2 hbl hO2
       refine hZ ?_
       go_wp2
       refine bodyPost_ret (v:=.tuple #[El.nil.v,.pointer (some ⟨N,0,none⟩)]) (by simp [results,results154,go_sem, *]) rfl ?_
       rw [HT.out,HC.out]
       exact Res.err HO2.out (Nat.le_refl _) (by omega) (by omega) HN2.out rfl (by omega) HR9.out (by omega) _ _ _ _ _ _
    ·rcases qhg _ hn with⟨v,hv⟩|hv
     ·have HT:Hid (Py.word (L s p)=Py.closed (.num v) (L s q)):=by
       show _=_
       rw [HT0.out];unfold Py.wordOf;rw [hn,if_pos rfl,hv]
      have hvb:=Lib.parseIntB_bounds hv
      have HVB:=hZ hvb
      have HV:=hZ hv
      clear hv hvb
      go_wp2_with (first|(go_at_call 246;refine(qa7 _ _ (by omega)).mono ?_;rintro e w' ⟨rfl,rfl⟩)|(go_at_call 247;refine(qef u (by omega) v HV.out _).mono ?_;rintro e w1 ⟨rfl,hbl⟩;refine Hid.out ?_))
      have HR1:=hZ ((HRq.out.drewN _).below hbl (by simp;omega))
      have HO1:=hZ (Only.of (HO.out.drewN _) hbl)
      have HX1:=hZ ((HX.out.drewN _).below hbl (by simp;omega))
      have hz1:w.heap.size+1≤w1.heap.size:=by have:=hbl.size;simp at this;omega
      clear hbl
      refine hZ ?_
      go_wp2_with (go_at_call 248;refine(qdw _ _).mono ?_;rintro e w2 ⟨rfl,hbl⟩;refine Hid.out ?_)
      have HR3:=hZ (HR1.out.below hbl (by omega))
      have HO3:=hZ (Only.of HO1.out hbl)
      have HX3:=hZ (HX1.out.below hbl (by omega))
      have hz3:w.heap.size+1≤w2.heap.size:=by have:=hbl.size;omega
      clear hbl
      refine hZ ?_
      by_cases hcl:∀hlt:q<s.size,Px.endB s[q]=true
      ·have HC:Hid (Py.closed (.num v) (L s q)=.inr ([.num v],L s q)):=qbv s q _ hcl
       have HCl:=hZ hcl
       clear hcl
       go_wp2_with (go_at_call 242;refine(qb6 b s q d ⟨0,v,false,⟨#[]⟩,0,none,0,0⟩ _ HR3.out HCl.out (by omega)).mono ?_;rintro e w9 ⟨rfl,hbl⟩;refine Hid.out ?_)
       have HR2:=hZ (HR3.out.below hbl (by omega))
       have HO2:=hZ (Only.of HO3.out hbl)
       obtain⟨⟨y0,k0⟩,⟨y1,k1⟩,⟨y2,k2⟩,⟨y3,k3⟩,⟨y4,k4⟩,⟨y5,k5⟩,kf⟩:=HX3.out.below hbl (by omega)
       clear hbl
       refine hZ ?_
       go_wp2
       refine bodyPost_ret (v:=.tuple #[El.v ⟨0,v,false,⟨#[]⟩,0,none,0,0⟩,.pointer none]) (by simp [results,results154,go_sem, *]) rfl ?_
       rw [HT.out,HC.out]
       exact Res.ok HO2.out (Nat.le_refl _) (Nat.lt_succ_self _) hb (by rw [show 32-d=(31-d)+1 from by omega];exact .inl ⟨rfl,rfl,by have:=HVB.out.1;show _≤v;simpa using this,(by have:=HVB.out.2;simp at this;show v≤_;omega),rfl,rfl,rfl⟩) HR2.out (by rw [qb3];omega) _ _ _ _ _ _
      ·have hcl':∃hlt:q<s.size,Px.endB s[q]=false:=by
        rcases Classical.not_forall.1 hcl with⟨a,ha⟩
        exact⟨a,by simpa using ha⟩
       obtain⟨hl2,he2⟩:=hcl'
       have HC:Hid (Py.closed (.num v) (L s q)=.inl (2,s.size-q)):=qch s q _ hl2 he2
       clear hcl
       go_wp2_with (go_at_call 242;refine(qct b s q d ⟨0,v,false,⟨#[]⟩,0,none,0,0⟩ _ HR3.out hl2 he2).mono ?_;rintro e w' ⟨N,rfl,hN,hN2,hbl⟩;refine Hid.out ?_)
       have hO2:Only b w w':=Only.of (HO3.out) hbl
       have HR9:=hZ ((HR3.out).below hbl (by first|omega|(simp;done)|(simp;omega)))
       have hx:Box w.heap.size w':=(HX3.out).below hbl (by first|omega|(simp;done)|(simp;omega))
       have hsz:w.heap.size+1≤N:=by first|omega|(simp at hN;omega)
       obtain⟨⟨y0,k0⟩,⟨y1,k1⟩,⟨y2,k2⟩,⟨y3,k3⟩,⟨y4,k4⟩,⟨y5,k5⟩,kf⟩:=hx
       have HN2:=hZ hN2
       have HO2:=hZ hO2
       clear hN hN2 hbl hO2
       refine hZ ?_
       go_wp2
       refine bodyPost_ret (v:=.tuple #[El.nil.v,.pointer (some ⟨N,0,none⟩)]) (by simp [results,results154,go_sem, *]) rfl ?_
       rw [HT.out,HC.out]
       exact Res.err HO2.out (Nat.le_refl _) (by omega) (by omega) HN2.out rfl (by omega) HR9.out (by omega) _ _ _ _ _ _
     ·have HT:Hid (Py.word (L s p)=.inl (4,s.size-p)):=by
       show _=_
       rw [HT0.out];unfold Py.wordOf;rw [hn,if_pos rfl,hv,HWL.out]
      obtain⟨tp,pv,hvar⟩:=(HG.out.only HO.out hb6 (by omega))
      have HV:=hZ hv
      have HVar:=hZ hvar
      clear hv hvar
      go_wp2_with (first|(go_at_call 246;refine(qa7 _ _ (by omega)).mono ?_;rintro e w' ⟨rfl,rfl⟩)|(go_at_call 247;refine(Tryz.strconv_ParseInt_10_at64_range_var u (by omega) HV.out tp pv _ (by exact HVar.out)).mono ?_;rintro e w1 ⟨N1,rfl,hN1,hN12,hbl⟩;refine Hid.out ?_))
      clear hN1 hN12
      have HR1:=hZ ((HRq.out.drewN _).below hbl (by simp;omega))
      have HO1:=hZ (Only.of (HO.out.drewN _) hbl)
      have HX1:=hZ ((HX.out.drewN _).below hbl (by simp;omega))
      have hz1:w.heap.size+1≤w1.heap.size:=by have:=hbl.size;simp at this;omega
      clear hbl
      refine hZ ?_
      go_wp2_with (go_at_call 147;refine(qbb _ _ _).mono ?_;rintro e w' ⟨N,rfl,hN,hN2,hbl⟩;refine Hid.out ?_)
      have hO2:Only b w w':=Only.of (HO1.out) hbl
      have HR9:=hZ ((HR1.out).below hbl (by first|omega|(simp;done)|(simp;omega)))
      have hx:Box w.heap.size w':=(HX1.out).below hbl (by first|omega|(simp;done)|(simp;omega))
      have hsz:w.heap.size+1≤N:=by first|omega|(simp at hN;omega)
      obtain⟨⟨y0,k0⟩,⟨y1,k1⟩,⟨y2,k2⟩,⟨y3,k3⟩,⟨y4,k4⟩,⟨y5,k5⟩,kf⟩:=hx
      have HN2:=hZ hN2
      have HO2:=hZ hO2
      clear hN hN2 hbl hO2
      refine hZ ?_
      go_wp2
      refine bodyPost_ret (v:=.tuple #[El.nil.v,.pointer (some ⟨N,0,none⟩)]) (by simp [results,results154,go_sem, *]) rfl ?_
      rw [HT.out]
      exact Res.err HO2.out (Nat.le_refl _) (by omega) (by omega) HN2.out rfl (by omega) HR9.out (by omega) _ _ _ _ _ _
   ·go_wp2
    go_quiet ((first|(go_at_call 87;exact Calls.quiet_of (qah b s q d _ (HRq.out.drewN _)))|(go_at_call 153;exact Calls.quiet_of_same (qa0 _ _))))
    go_wp2
    go_roundw
    case rel=>exact⟨q+1,HS.out.next hlt hc,(HRq.out.drewN _).set1 _ _ (by omega),(HO.out.drewN _).set _ _,(HX.out.drewN _).set (by omega) _,by simpa using hz⟩
    case measure=>
     have e1:=HPos.out
     have e2:=((HRq.out.drewN nq).set1 (q+1) ((q:Int)+1) (by omega)).pos
     rw [e1,e2];omega
  ·have hd:((q:Int)==(s.size:Int))=true:=by simp;omega
   have hT0:Py.word (L s p)=Py.wordOf (s.extract p q).data.toList (L s q):=word_L HS.out (fun h=>absurd h hlt)
   have hwl:=wlen (s:=s) hpq hq
   go_wp2
   go_quiet ((first|(go_at_call 87;exact Calls.quiet_of (qah b s q d _ (HRq.out.drewN _)))|(go_at_call 153;exact Calls.quiet_of_same (qa0 _ _))))
   go_wp2
   go_quiet (fail)
   obtain⟨u,hu⟩:∃u,u=s.extract p q:=⟨_,rfl⟩
   rw [←hu]at hT0 hwl⊢
   have hule:u.size≤1200:=by rw [hu];simp;omega
   have HU:=hZ hu
   have HWL:=hZ hwl
   have HT0:=hZ hT0
   clear hu hwl hT0
   cases hn:Px.numB u.data.toList
   ·by_cases hlen:24<u.size
    ·have HT:Hid (Py.word (L s p)=.inl (4,s.size-p)):=by
      show _=_
      rw [HT0.out];unfold Py.wordOf;rw [hn,if_neg (by simp),if_pos (by simpa using hlen),HWL.out]
     go_wp2_with (first|(go_at_call 246;refine(qa7 _ _ (by omega)).mono ?_;rintro e w' ⟨rfl,rfl⟩)|(go_at_call 147;refine(qbb _ _ _).mono ?_;rintro e w' ⟨N,rfl,hN,hN2,hbl⟩;refine Hid.out ?_))
     have hO2:Only b w w':=Only.of (HO.out.drewN _) hbl
     have HR9:=hZ ((HRq.out.drewN _).below hbl (by first|omega|(simp;done)|(simp;omega)))
     have hx:Box w.heap.size w':=(HX.out.drewN _).below hbl (by first|omega|(simp;done)|(simp;omega))
     have hsz:w.heap.size+1≤N:=by first|omega|(simp at hN;omega)
     obtain⟨⟨y0,k0⟩,⟨y1,k1⟩,⟨y2,k2⟩,⟨y3,k3⟩,⟨y4,k4⟩,⟨y5,k5⟩,kf⟩:=hx
     have HN2:=hZ hN2
     have HO2:=hZ hO2
     clear hN hN2 hbl hO2
     refine hZ ?_
     go_wp2
     refine bodyPost_ret (v:=.tuple #[El.nil.v,.pointer (some ⟨N,0,none⟩)]) (by simp [results,results154,go_sem, *]) rfl ?_
     rw [HT.out]
     exact Res.err HO2.out (Nat.le_refl _) (by omega) (by omega) HN2.out rfl (by omega) HR9.out (by omega) _ _ _ _ _ _
    ·have HT:Hid (Py.word (L s p)=Py.closed (.sym u.data.toList 0) (L s q)):=by
      show _=_
      rw [HT0.out];unfold Py.wordOf;rw [hn,if_neg (by simp),if_neg (by simpa using hlen)]
     go_wp2_with (first|(go_at_call 246;refine(qa7 _ _ (by omega)).mono ?_;rintro e w' ⟨rfl,rfl⟩)|(go_at_call 239;refine(qdu _ _).mono ?_;rintro e w1 ⟨rfl,hbl⟩;refine Hid.out ?_))
     have HR1:=hZ ((HRq.out.drewN _).below hbl (by simp;omega))
     have HO1:=hZ (Only.of (HO.out.drewN _) hbl)
     have HX1:=hZ ((HX.out.drewN _).below hbl (by simp;omega))
     have hz1:w.heap.size+1≤w1.heap.size:=by have:=hbl.size;simp at this;omega
     clear hbl
     refine hZ ?_
     by_cases hcl:∀hlt:q<s.size,Px.endB s[q]=true
     ·have HC:Hid (Py.closed (.sym u.data.toList 0) (L s q)=.inr ([.sym u.data.toList 0],L s q)):=qbv s q _ hcl
      have HCl:=hZ hcl
      clear hcl
      go_wp2_with (go_at_call 242;refine(qb6 b s q d ⟨3,0,false,u,0,none,0,0⟩ _ HR1.out HCl.out (by omega)).mono ?_;rintro e w9 ⟨rfl,hbl⟩;refine Hid.out ?_)
      have HR2:=hZ (HR1.out.below hbl (by omega))
      have HO2:=hZ (Only.of HO1.out hbl)
      obtain⟨⟨y0,k0⟩,⟨y1,k1⟩,⟨y2,k2⟩,⟨y3,k3⟩,⟨y4,k4⟩,⟨y5,k5⟩,kf⟩:=HX1.out.below hbl (by omega)
      clear hbl
      refine hZ ?_
      go_wp2
      refine bodyPost_ret (v:=.tuple #[El.v ⟨3,0,false,u,0,none,0,0⟩,.pointer none]) (by simp [results,results154,go_sem, *]) rfl ?_
      rw [HT.out,HC.out]
      exact Res.ok HO2.out (Nat.le_refl _) (Nat.lt_succ_self _) hb (by rw [show 32-d=(31-d)+1 from by omega];exact .inr (.inr (.inr (.inl ⟨rfl,rfl,rfl⟩)))) HR2.out (by rw [qb3];omega) _ _ _ _ _ _
     ·have hcl':∃hlt:q<s.size,Px.endB s[q]=false:=by
       rcases Classical.not_forall.1 hcl with⟨a,ha⟩
       exact⟨a,by simpa using ha⟩
      obtain⟨hl2,he2⟩:=hcl'
      exact absurd hl2 hlt
   ·rcases qhg _ hn with⟨v,hv⟩|hv
    ·have HT:Hid (Py.word (L s p)=Py.closed (.num v) (L s q)):=by
      show _=_
      rw [HT0.out];unfold Py.wordOf;rw [hn,if_pos rfl,hv]
     have hvb:=Lib.parseIntB_bounds hv
     have HVB:=hZ hvb
     have HV:=hZ hv
     clear hv hvb
     go_wp2_with (first|(go_at_call 246;refine(qa7 _ _ (by omega)).mono ?_;rintro e w' ⟨rfl,rfl⟩)|(go_at_call 247;refine(qef u (by omega) v HV.out _).mono ?_;rintro e w1 ⟨rfl,hbl⟩;refine Hid.out ?_))
     have HR1:=hZ ((HRq.out.drewN _).below hbl (by simp;omega))
     have HO1:=hZ (Only.of (HO.out.drewN _) hbl)
     have HX1:=hZ ((HX.out.drewN _).below hbl (by simp;omega))
     have hz1:w.heap.size+1≤w1.heap.size:=by have:=hbl.size;simp at this;omega
     clear hbl
     refine hZ ?_
     go_wp2_with (go_at_call 248;refine(qdw _ _).mono ?_;rintro e w2 ⟨rfl,hbl⟩;refine Hid.out ?_)
     have HR3:=hZ (HR1.out.below hbl (by omega))
     have HO3:=hZ (Only.of HO1.out hbl)
     have HX3:=hZ (HX1.out.below hbl (by omega))
     have hz3:w.heap.size+1≤w2.heap.size:=by have:=hbl.size;omega
     clear hbl
     refine hZ ?_
     by_cases hcl:∀hlt:q<s.size,Px.endB s[q]=true
     ·have HC:Hid (Py.closed (.num v) (L s q)=.inr ([.num v],L s q)):=qbv s q _ hcl
      have HCl:=hZ hcl
      clear hcl
      go_wp2_with (go_at_call 242;refine(qb6 b s q d ⟨0,v,false,⟨#[]⟩,0,none,0,0⟩ _ HR3.out HCl.out (by omega)).mono ?_;rintro e w9 ⟨rfl,hbl⟩;refine Hid.out ?_)
      have HR2:=hZ (HR3.out.below hbl (by omega))
      have HO2:=hZ (Only.of HO3.out hbl)
      obtain⟨⟨y0,k0⟩,⟨y1,k1⟩,⟨y2,k2⟩,⟨y3,k3⟩,⟨y4,k4⟩,⟨y5,k5⟩,kf⟩:=HX3.out.below hbl (by omega)
      clear hbl
      refine hZ ?_
      go_wp2
      refine bodyPost_ret (v:=.tuple #[El.v ⟨0,v,false,⟨#[]⟩,0,none,0,0⟩,.pointer none]) (by simp [results,results154,go_sem, *]) rfl ?_
      rw [HT.out,HC.out]
      exact Res.ok HO2.out (Nat.le_refl _) (Nat.lt_succ_self _) hb (by rw [show 32-d=(31-d)+1 from by omega];exact .inl ⟨rfl,rfl,by have:=HVB.out.1;show _≤v;simpa using this,(by have:=HVB.out.2;simp at this;show v≤_;omega),rfl,rfl,rfl⟩) HR2.out (by rw [qb3];omega) _ _ _ _ _ _
     ·have hcl':∃hlt:q<s.size,Px.endB s[q]=false:=by
       rcases Classical.not_forall.1 hcl with⟨a,ha⟩
       exact⟨a,by simpa using ha⟩
      obtain⟨hl2,he2⟩:=hcl'
      exact absurd hl2 hlt
    ·have HT:Hid (Py.word (L s p)=.inl (4,s.size-p)):=by
      show _=_
      rw [HT0.out];unfold Py.wordOf;rw [hn,if_pos rfl,hv,HWL.out]
     obtain⟨tp,pv,hvar⟩:=(HG.out.only HO.out hb6 (by omega))
     have HV:=hZ hv
     have HVar:=hZ hvar
     clear hv hvar
     go_wp2_with (first|(go_at_call 246;refine(qa7 _ _ (by omega)).mono ?_;rintro e w' ⟨rfl,rfl⟩)|(go_at_call 247;refine(Tryz.strconv_ParseInt_10_at64_range_var u (by omega) HV.out tp pv _ (by exact HVar.out)).mono ?_;rintro e w1 ⟨N1,rfl,hN1,hN12,hbl⟩;refine Hid.out ?_))
     clear hN1 hN12
     have HR1:=hZ ((HRq.out.drewN _).below hbl (by simp;omega))
     have HO1:=hZ (Only.of (HO.out.drewN _) hbl)
     have HX1:=hZ ((HX.out.drewN _).below hbl (by simp;omega))
     have hz1:w.heap.size+1≤w1.heap.size:=by have:=hbl.size;simp at this;omega
     clear hbl
     refine hZ ?_
     go_wp2_with (go_at_call 147;refine(qbb _ _ _).mono ?_;rintro e w' ⟨N,rfl,hN,hN2,hbl⟩;refine Hid.out ?_)
     have hO2:Only b w w':=Only.of (HO1.out) hbl
     have HR9:=hZ ((HR1.out).below hbl (by first|omega|(simp;done)|(simp;omega)))
     have hx:Box w.heap.size w':=(HX1.out).below hbl (by first|omega|(simp;done)|(simp;omega))
     have hsz:w.heap.size+1≤N:=by first|omega|(simp at hN;omega)
     obtain⟨⟨y0,k0⟩,⟨y1,k1⟩,⟨y2,k2⟩,⟨y3,k3⟩,⟨y4,k4⟩,⟨y5,k5⟩,kf⟩:=hx
     have HN2:=hZ hN2
     have HO2:=hZ hO2
     clear hN hN2 hbl hO2
     refine hZ ?_
     go_wp2
     refine bodyPost_ret (v:=.tuple #[El.nil.v,.pointer (some ⟨N,0,none⟩)]) (by simp [results,results154,go_sem, *]) rfl ?_
     rw [HT.out]
     exact Res.err HO2.out (Nat.le_refl _) (by omega) (by omega) HN2.out rfl (by omega) HR9.out (by omega) _ _ _ _ _ _
end Rd
end
end Go.Proofs.YtldaocpojcfljaaGreatDoor
