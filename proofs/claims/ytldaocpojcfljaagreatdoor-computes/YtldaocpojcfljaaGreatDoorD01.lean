import Derived.Test.YtldaocpojcfljaaGreatDoorProg
import Derived.Lib.ParseIntBTie
import Derived.Lib.ItoaNum
import Derived.Lib.ItoaLen
import Derived.KernelRfl
set_option maxRecDepth 100000
set_option maxHeartbeats 4000000
namespace Go.Proofs.YtldaocpojcfljaaGreatDoor
section
namespace Px
open Go
def digB(c:UInt8):Bool:=decide (48<=c.toNat/\c.toNat<=57)
def wordB(c:UInt8):Bool:=decide ((97<=c.toNat/\c.toNat<=122)\/(48<=c.toNat/\c.toNat<=57)\/c.toNat=43\/c.toNat=45\/c.toNat=42\/c.toNat=47\/c.toNat=60\/c.toNat=62\/c.toNat=61\/c.toNat=63\/c.toNat=33\/c.toNat=95\/c.toNat=46\/c.toNat=58)
def endB(c:UInt8):Bool:=decide (c.toNat=32\/c.toNat=10\/c.toNat=40\/c.toNat=41\/c.toNat=39\/c.toNat=34\/c.toNat=59)
def strB(c:UInt8):Bool:=decide (32<=c.toNat/\c.toNat<=126/\c.toNat≠34/\c.toNat≠92)
def skip:Bool->List UInt8->List UInt8
 |_,[]=>[]
 |true,c::r=>if c.toNat=10 then skip false r else skip true r
 |false,c::r=>if c.toNat=32\/c.toNat=10 then skip false r else if c.toNat=59 then skip true r else c::r
def unsign(w:List UInt8):List UInt8:=
 match w with
 | []=>[]
 |c::r=>if c.toNat=45 then r else c::r
def numB(w:List UInt8):Bool:=(unsign w).all digB&&!(unsign w).isEmpty
def join:List (List UInt8)->List UInt8
 | []=>[]
 |t::r=>t++(match r with| []=>[]|_::_=>32::join r)
def paren(ts:List (List UInt8)):List UInt8:=40::(join ts++[41])
def quoteT:List UInt8:=[113,117,111,116,101]
end Px
end
section
namespace Px
open Go
theorem skip_idem:∀(l:List UInt8) (b:Bool),skip false (skip b l)=skip b l
 | [],b=>by cases b <;> rfl
 |c::r,true=>by
  by_cases h:c.toNat=10
  ·simp only[skip,if_pos h];exact skip_idem r false
  ·simp only[skip,if_neg h];exact skip_idem r true
 |c::r,false=>by
  by_cases h:c.toNat=32\/c.toNat=10
  ·simp only[skip,if_pos h];exact skip_idem r false
  ·by_cases h2:c.toNat=59
   ·simp only[skip,if_neg h,if_pos h2];exact skip_idem r true
   ·simp only[skip,if_neg h,if_neg h2]
theorem skip_suf:∀(l:List UInt8) (b:Bool),skip b l<:+l
 | [],b=>by cases b <;> exact List.suffix_refl _
 |c::r,true=>by
  by_cases h:c.toNat=10
  ·simp only[skip,if_pos h];exact(skip_suf r false).trans (List.suffix_cons c r)
  ·simp only[skip,if_neg h];exact(skip_suf r true).trans (List.suffix_cons c r)
 |c::r,false=>by
  by_cases h:c.toNat=32\/c.toNat=10
  ·simp only[skip,if_pos h];exact(skip_suf r false).trans (List.suffix_cons c r)
  ·by_cases h2:c.toNat=59
   ·simp only[skip,if_neg h,if_pos h2];exact(skip_suf r true).trans (List.suffix_cons c r)
   ·simp only[skip,if_neg h,if_neg h2];exact List.suffix_refl _
theorem qbu(P:UInt8->Bool)(l:List UInt8):l.dropWhile P<:+l:=List.dropWhile_suffix P
end Px
end
section
inductive Dt where
 |num (v:Int)
 |bool (b:Bool)
 |str (t:List UInt8)
 |sym (t:List UInt8) (m:Int)
 |list (l:List Dt)
mutual
def Dt.wr:Dt->List UInt8
 | .num v=>Lib.itoa v
 | .bool b=>if b then [35,116]else [35,102]
 | .str t=>34::(t++[34])
 | .sym t _=>t
 | .list l=>Px.paren (Dt.wrs l)
def Dt.wrs:List Dt->List (List UInt8)
 | []=>[]
 |d::r=>d.wr::Dt.wrs r
end
namespace Py
open Go
open Px (digB wordB endB strB skip unsign numB quoteT skip_idem skip_suf qbu)
abbrev R:=Sum (Nat×Nat) (List Dt×List UInt8)
def closed(t:Dt)(r:List UInt8):R:=
 match r with
 | []=>.inr ([t],[])
 |c::r'=>if endB c then .inr ([t],c::r')else .inl (2,r'.length+1)
def wordOf(w r:List UInt8):R:=
 if numB w then
  match Lib.parseIntB 64 w with
  | .ok v=>closed (.num v) r
  |_=>.inl (4,w.length+r.length)
 else if 24<w.length then .inl (4,w.length+r.length)
 else closed (.sym w 0) r
def word(l:List UInt8):R:=wordOf (l.takeWhile wordB) (l.dropWhile wordB)
def str(l:List UInt8):R:=
 match l.dropWhile strB with
 | []=>.inl (3,0)
 |c::r=>if c.toNat=34 then .inr ([.str (l.takeWhile strB)],r)else .inl (2,r.length+1)
def truth(l:List UInt8):R:=
 match l with
 | []=>.inl (2,1)
 |c::r=>if c.toNat=116 then closed (.bool true) r else if c.toNat=102 then closed (.bool false) r else .inl (2,r.length+2)
def rd:Nat->Bool->Nat->List UInt8->R
 |0,_,_,_=>.inl (0,0)
 |f+1,true,d,l=>
  match skip false l with
  | []=>.inl (3,0)
  |c::r=>
   if c.toNat=41 then .inr ([],r)
   else match rd f false d (c::r)with
    | .inl e=>.inl e
    | .inr (x,r1)=>match rd f true d r1 with
     | .inl e=>.inl e
     | .inr (xs,r2)=>.inr (x++xs,r2)
 |f+1,false,d,l=>
  match skip false l with
  | []=>.inl (3,0)
  |c::r=>
   if c.toNat=40 then
    if d=30 then .inl (4,r.length+1)
    else match rd f true (d+1) r with
     | .inl e=>.inl e
     | .inr (xs,r1)=>.inr ([.list xs],r1)
   else if c.toNat=39 then
    if d=30 then .inl (4,r.length+1)
    else match rd f false (d+1) r with
     | .inl e=>.inl e
     | .inr (xs,r1)=>.inr ([.list (.sym quoteT 0::xs)],r1)
   else if c.toNat=34 then str r
   else if c.toNat=35 then truth r
   else if wordB c then word (c::r)
   else .inl (2,r.length+1)
def top:Nat->List UInt8->R
 |0,_=>.inl (0,0)
 |f+1,l=>
  match skip false l with
  | []=>.inr ([],[])
  |c::r=>match rd f false 0 (c::r)with
   | .inl e=>.inl e
   | .inr (x,r1)=>match top f r1 with
    | .inl e=>.inl e
    | .inr (xs,r2)=>.inr (x++xs,r2)
def Shorter(l:List UInt8)(b:Bool)(r:R):Prop:=∀xs rr,r=.inr (xs,rr)->rr<:+l/\rr.length<l.length/\(b=false->∃t,xs=[t])
theorem qby(l:List UInt8)(t:Dt)(r:List UInt8)(b:Bool)(h:r<:+l)(h2:r.length<l.length):Shorter l b (closed t r):=by
 intro xs rr he;unfold closed at he;cases r with
 |nil=>simp at he;obtain⟨h3,h4⟩:=he;subst h3;subst h4;exact⟨h,h2,fun _=>⟨t,rfl⟩⟩
 |cons c r'=>
  simp only at he;split at he
  ·simp at he;obtain⟨h3,h4⟩:=he;subst h3;subst h4;exact⟨h,h2,fun _=>⟨t,rfl⟩⟩
  ·simp at he
theorem qk3(c:UInt8)(r:List UInt8)(h:wordB c=true):Shorter (c::r) false (word (c::r)):=by
 have hs:(c::r).dropWhile wordB<:+(c::r):=qbu _ _;have hl:((c::r).dropWhile wordB).length<(c::r).length:=by
  have h1:(c::r).dropWhile wordB=r.dropWhile wordB:=by simp[List.dropWhile,h]
  rw[h1];have:=(qbu wordB r).length_le;simp;omega
 unfold word wordOf;split
 ·split
  ·exact qby _ _ _ _ hs hl
  ·intro xs rr he;simp at he
 ·split
  ·intro xs rr he;simp at he
  ·exact qby _ _ _ _ hs hl
theorem qnm(c:UInt8)(r:List UInt8):Shorter (c::r) false (str r):=by
 intro xs rr he;have hs:r.dropWhile strB<:+r:=qbu _ _;unfold str at he;cases hd:r.dropWhile strB with
 |nil=>rw[hd]at he;simp at he
 |cons c' r'=>
  rw[hd]at he hs;simp only at he;split at he
  ·simp at he;obtain⟨h3,h4⟩:=he;subst h3;subst h4;have h5:r'<:+r:=(List.suffix_cons c' r').trans hs;exact⟨h5.trans (List.suffix_cons c r),by have:=h5.length_le;simp;omega,fun _=>⟨_,rfl⟩⟩
  ·simp at he
theorem qig(c:UInt8)(r:List UInt8):Shorter (c::r) false (truth r):=by
 cases r with
 |nil=>intro xs rr he;simp[truth]at he
 |cons c' r'=>
  have h1:r'<:+(c::c'::r'):=(List.suffix_cons c' r').trans (List.suffix_cons c _);unfold truth;simp only;split
  ·exact qby _ _ _ _ h1 (by simp;omega)
  ·split
   ·exact qby _ _ _ _ h1 (by simp;omega)
   ·intro xs rr he;simp at he
theorem rd_short:∀(f:Nat) (b:Bool) (d:Nat) (l:List UInt8),Shorter l b (rd f b d l)
 |0,b,d,l=>by intro xs rr he;simp[rd]at he
 |f+1,true,d,l=>by
  intro xs rr he;have hs:=skip_suf l false;unfold rd at he;cases hk:skip false l with
  |nil=>rw[hk]at he;simp at he
  |cons c r=>
   rw[hk]at he hs;simp only at he;split at he
   ·simp at he;obtain⟨h3,h4⟩:=he;subst h3;subst h4;have h5:=(List.suffix_cons c r).trans hs;exact⟨h5,by have:=hs.length_le;simp at this;omega,fun h=>by cases h⟩
   ·cases h1:rd f false d (c::r)with
    |inl e=>rw[h1]at he;simp at he
    |inr p=>
     obtain⟨x,r1⟩:=p;rw[h1]at he;simp only at he;cases h2:rd f true d r1 with
     |inl e=>rw[h2]at he;simp at he
     |inr p2=>
      obtain⟨xs2,r2⟩:=p2;rw[h2]at he;simp at he;obtain⟨h3,h4⟩:=he;subst h3;subst h4;have g1:=rd_short f false d (c::r) _ _ h1;have g2:=rd_short f true d r1 _ _ h2;exact⟨(g2.1.trans g1.1).trans hs,by have:=hs.length_le;omega,fun h=>by cases h⟩
 |f+1,false,d,l=>by
  intro xs rr he;have hs:=skip_suf l false;unfold rd at he;cases hk:skip false l with
  |nil=>rw[hk]at he;simp at he
  |cons c r=>
   rw[hk]at he hs;have up:Shorter (c::r) false (.inr (xs,rr))->rr<:+l/\rr.length<l.length/\(false=false->∃t,xs=[t]):=by
    intro h;have g:=h xs rr rfl;exact⟨g.1.trans hs,by have:=hs.length_le;omega,g.2.2⟩
   simp only at he;split at he
   ·split at he
    ·simp at he
    ·cases h1:rd f true (d+1) r with
     |inl e=>rw[h1]at he;simp at he
     |inr p=>
      obtain⟨x,r1⟩:=p;rw[h1]at he;simp at he;obtain⟨h3,h4⟩:=he;subst h3;subst h4;have g1:=rd_short f true (d+1) r _ _ h1;exact⟨(g1.1.trans (List.suffix_cons c r)).trans hs,by have:=hs.length_le;simp at this;omega,fun _=>⟨_,rfl⟩⟩
   ·split at he
    ·split at he
     ·simp at he
     ·cases h1:rd f false (d+1) r with
      |inl e=>rw[h1]at he;simp at he
      |inr p=>
       obtain⟨x,r1⟩:=p;rw[h1]at he;simp at he;obtain⟨h3,h4⟩:=he;subst h3;subst h4;have g1:=rd_short f false (d+1) r _ _ h1;exact⟨(g1.1.trans (List.suffix_cons c r)).trans hs,by have:=hs.length_le;simp at this;omega,fun _=>⟨_,rfl⟩⟩
    ·split at he
     ·exact up (he▸qnm c r)
     ·split at he
      ·exact up (he▸qig c r)
      ·split at he
       ·rename_i hw;exact up (he▸qk3 c r hw)
       ·simp at he
theorem rd_skip(f:Nat)(b:Bool)(d:Nat)(l:List UInt8):rd f b d (skip false l)=rd f b d l:=by
 cases f with
 |zero=>cases b <;> rfl
 |succ f=>cases b <;> (unfold rd;rw[skip_idem])
def pre(ts:List Dt)(r:R):R:=match r with
 | .inl e=>.inl e
 | .inr (xs,rr)=>.inr (ts++xs,rr)
theorem pre_nil(r:R):pre [] r=r:=by rcases r with e|⟨xs,rr⟩ <;> rfl
theorem pre_pre(a b:List Dt)(r:R):pre a (pre b r)=pre (a++b) r:=by
 rcases r with e|⟨xs,rr⟩
 ·rfl
 ·simp[pre]
theorem rd_true_close(f d:Nat)(c:UInt8)(r:List UInt8)(hc:c.toNat=41):rd (f+1) true d (c::r)=.inr ([],r):=by
 have h:skip false (c::r)=c::r:=by simp only[skip];rw[if_neg (by omega),if_neg (by omega)]
 unfold rd;rw[h];simp[hc]
theorem rd_true_bad(f d:Nat)(l:List UInt8)(hk:skip false l=l)(hc:∀c r,l=c::r->c.toNat≠41)(e:Nat×Nat)(h:rd f false d l=.inl e)(hf:1<=f):rd (f+1) true d l=.inl e:=by
 unfold rd;rw[hk];cases l with
 |nil=>
  obtain⟨g,rfl⟩:∃g,f=g+1:=⟨f-1,by omega⟩;unfold rd at h;rw[hk]at h;simp only at h|-;rw[h]
 |cons c r=>simp only;rw[if_neg (hc c r rfl),h]
theorem rd_true_more(f d:Nat)(l:List UInt8)(hk:skip false l=l)(hc:∀c r,l=c::r->c.toNat≠41)(x:List Dt)(r1:List UInt8)(h:rd f false d l=.inr (x,r1)):rd (f+1) true d l=pre x (rd f true d (skip false r1)):=by
 rw[rd_skip];cases l with
 |nil=>
  cases f with
  |zero=>simp[rd]at h
  |succ f=>unfold rd at h;simp[skip]at h
 |cons c r=>
  rw[rd,hk];simp only;rw[if_neg (hc c r rfl),h];simp only;rcases rd f true d r1 with e|⟨xs,rr⟩ <;> rfl
def topP:Nat->List UInt8->Sum (Nat×Nat) (List (Dt×Nat)×List UInt8)
 |0,_=>.inl (0,0)
 |f+1,l=>
  match skip false l with
  | []=>.inr ([],[])
  |c::r=>match rd f false 0 (c::r)with
   | .inl e=>.inl e
   | .inr (x,r1)=>match topP f r1 with
    | .inl e=>.inl e
    | .inr (xs,r2)=>.inr (x.map (fun t=>(t,r.length+1))++xs,r2)
def preP(ts:List (Dt×Nat))(r:Sum (Nat×Nat) (List (Dt×Nat)×List UInt8)):Sum (Nat×Nat) (List (Dt×Nat)×List UInt8):=match r with
 | .inl e=>.inl e
 | .inr (xs,rr)=>.inr (ts++xs,rr)
theorem preP_nil(r:Sum (Nat×Nat) (List (Dt×Nat)×List UInt8)):preP [] r=r:=by rcases r with e|⟨xs,rr⟩ <;> rfl
theorem preP_pre(a b:List (Dt×Nat))(r:Sum (Nat×Nat) (List (Dt×Nat)×List UInt8)):preP a (preP b r)=preP (a++b) r:=by
 rcases r with e|⟨xs,rr⟩
 ·rfl
 ·simp[preP]
theorem topP_top:∀(f:Nat) (l:List UInt8),top f l=(match topP f l with| .inl e=>.inl e| .inr (xs,rr)=>.inr (xs.map (·.1),rr))
 |0,_=>rfl
 |f+1,l=>by
  rw[top,topP];cases skip false l with
  |nil=>rfl
  |cons c r=>
   simp only;rcases rd f false 0 (c::r)with e|⟨x,r1⟩
   ·rfl
   ·simp only;rw[topP_top f r1];rcases topP f r1 with e|⟨x2,r2⟩
    ·rfl
    ·simp[Function.comp_def]
end Py
end
section
namespace Px
open Go
end Px
end
section
namespace Px
open Go
theorem qex(n:Nat)(h:n<10):(UInt8.ofNat (48+n)).toNat=48+n:=by
 rw[UInt8.toNat_ofNat'];omega
theorem qdq(u:Nat):(Lib.decDigits u).all digB=true/\Lib.decDigits u≠[]:=by
 induction u using Nat.strongRecOn with
 |ind u ih=>
  rw[Lib.decDigits];by_cases h:u<10
  ·rw[dif_pos h];simp[digB];omega
  ·rw[dif_neg h];have h1:=ih (u / 10) (by omega);rw[List.all_append,h1.1];simp[digB];omega
theorem qh3(u:Nat)(hu:u<=2 ^ 64-1):∀rest,Lib.parseUintM (2 ^ 64-1) 0 (Lib.decDigits u++rest)=Lib.parseUintM (2 ^ 64-1) u rest:=by
 induction u using Nat.strongRecOn with
 |ind u ih=>
  intro rest;rw[Lib.decDigits];by_cases h:u<10
  ·rw[dif_pos h];have e:=qex u h;rw[List.singleton_append,Lib.parseUintM,if_pos (by omega),if_neg (by omega),if_neg (by omega),e];congr 1;omega
  ·rw[dif_neg h];have e:=qex (u % 10) (by omega);rw[List.append_assoc,ih (u / 10) (by omega) (by omega),List.singleton_append,Lib.parseUintM,if_pos (by omega),if_neg (by omega),if_neg (by omega),e];congr 1;omega
theorem qkx(u:Nat):∃c r,Lib.decDigits u=c::r/\digB c=true:=by
 have h:=qdq u;cases hd:Lib.decDigits u with
 |nil=>exact absurd hd h.2
 |cons c r=>rw[hd]at h;exact⟨c,r,rfl,by simpa using (show digB c=true/\_ from by simpa using h.1).1⟩
theorem qfq(v:Int)(h0:-9223372036854775808<=v)(h1:v<=9223372036854775807):Lib.parseIntB 64 (Lib.itoa v)=.ok v:=by
 unfold Lib.itoa;by_cases hv:v<0
 ·rw[if_pos hv];have hu:=qh3 v.natAbs (by omega) [];rw[List.append_nil]at hu;have hne:=(qdq v.natAbs).2;unfold Lib.parseIntB;simp only[show(45:UInt8).toNat=45 from rfl,or_true,if_true];unfold Lib.parseUintB;rw[if_neg hne,hu,Lib.parseUintM];simp only;rw[if_neg (by simp),if_neg (by simp;omega)];congr 1;omega
 ·rw[if_neg hv];have hu:=qh3 v.toNat (by omega) [];rw[List.append_nil]at hu;obtain⟨c,r,hc,hd⟩:=qkx v.toNat;rw[hc]at hu|-;have hd':48<=c.toNat/\c.toNat<=57:=by simpa[digB]using hd
  unfold Lib.parseIntB;simp only;rw[if_neg (by omega)];unfold Lib.parseUintB;rw[if_neg (by simp),hu,Lib.parseUintM];simp only;rw[if_neg (by intro h;have:=h.2;omega),if_neg (by intro h;omega),if_neg (by omega)];congr 1;omega
theorem qkp(v:Int):numB (Lib.itoa v)=true:=by
 unfold Lib.itoa numB;by_cases hv:v<0
 ·rw[if_pos hv];have h:=qdq v.natAbs;simp[unsign,h.1,h.2]
 ·rw[if_neg hv];have h:=qdq v.toNat;obtain⟨c,r,hc,hd⟩:=qkx v.toNat;have hd':48<=c.toNat/\c.toNat<=57:=by simpa[digB]using hd
  rw[hc]at h|-;have hu:unsign (c::r)=c::r:=by unfold unsign;simp only;rw[if_neg (by omega)]
  rw[hu,h.1];rfl
theorem qmt(c:UInt8)(h:digB c=true):wordB c=true:=by
 have:48<=c.toNat/\c.toNat<=57:=by simpa[digB]using h
 unfold wordB;rw[decide_eq_true_eq];right;left;exact this
theorem qhl(v:Int):(Lib.itoa v).all wordB=true/\Lib.itoa v≠[]:=by
 have hall:∀l:List UInt8,l.all digB=true->l.all wordB=true:=by
  intro l h;rw[List.all_eq_true]at h|-;exact fun x hx=>qmt x (h x hx)
 unfold Lib.itoa;by_cases hv:v<0
 ·rw[if_pos hv];have h:=qdq v.natAbs;rw[List.all_cons,hall _ h.1];exact⟨by decide,by simp⟩
 ·rw[if_neg hv];have h:=qdq v.toNat;exact⟨hall _ h.1,h.2⟩
def Free(rest:List UInt8):Prop:=∀c r,rest=c::r->endB c=true
def Starts(t:List UInt8):Prop:=∃c r,t=c::r/\c.toNat≠32/\c.toNat≠10/\c.toNat≠59/\c.toNat≠41
theorem qa3(c:UInt8)(r:List UInt8)(h1:c.toNat≠32)(h2:c.toNat≠10)(h3:c.toNat≠59):skip false (c::r)=c::r:=by
 rw[skip,if_neg (by omega),if_neg h3]
theorem qd7(c:UInt8)(h:wordB c=true):c.toNat≠32/\c.toNat≠10/\c.toNat≠59/\c.toNat≠41/\c.toNat≠40/\c.toNat≠39/\c.toNat≠34/\c.toNat≠35:=by
 unfold wordB at h;rw[decide_eq_true_eq]at h;omega
theorem qmr(c:UInt8)(h:endB c=true):wordB c=false:=by
 unfold endB at h;rw[decide_eq_true_eq]at h;unfold wordB;rw[decide_eq_false_iff_not];omega
theorem qg3(w rest:List UInt8)(hw:w.all wordB=true)(hr:Free rest):(w++rest).takeWhile wordB=w/\(w++rest).dropWhile wordB=rest:=by
 induction w with
 |nil=>
  cases rest with
  |nil=>simp
  |cons c r=>have:=qmr c (hr c r rfl);simp[this]
 |cons c r ih=>
  have h1:wordB c=true/\r.all wordB=true:=by simpa using hw
  have:=ih h1.2;simp[h1.1,this.1,this.2]
theorem qf2(u rest:List UInt8)(hu:u.all strB=true):(u++34::rest).takeWhile strB=u/\(u++34::rest).dropWhile strB=34::rest:=by
 induction u with
 |nil=>simp[show strB 34=false from by decide]
 |cons c r ih=>
  have h1:strB c=true/\r.all strB=true:=by simpa using hu
  have:=ih h1.2;simp[h1.1,this.1,this.2]
theorem qdb(c:UInt8)(r:List UInt8)(h:endB c=true):Free (c::r):=by
 intro c' r' e;cases e;exact h
end Px
end
section
namespace Sc
open Go
abbrev Bs:=List UInt8
inductive Pm where
 |add
 |sub
 |mul
 |quot
 |rem
 |eql
 |lss
 |cons
 |car
 |cdr
 |nullQ
 |pairQ
 |intQ
 |symQ
 |strQ
 |boolQ
 |procQ
 |sealQ
 |not
 |eqQ
 |equalQ
 |list
 |length
 |append
 |strAppend
 |strLength
 |numStr
 |symStr
 |apply
 |callcc
 |wind
 |error
 |seal
 |write
 |readLine
 |tick
 |roll
 |unseal
def Pm.name:Pm->Bs
 | .add=>[43]
 | .sub=>[45]
 | .mul=>[42]
 | .quot=>[113,117,111,116,105,101,110,116]
 | .rem=>[114,101,109,97,105,110,100,101,114]
 | .eql=>[61]
 | .lss=>[60]
 | .cons=>[99,111,110,115]
 | .car=>[99,97,114]
 | .cdr=>[99,100,114]
 | .nullQ=>[110,117,108,108,63]
 | .pairQ=>[112,97,105,114,63]
 | .intQ=>[105,110,116,101,103,101,114,63]
 | .symQ=>[115,121,109,98,111,108,63]
 | .strQ=>[115,116,114,105,110,103,63]
 | .boolQ=>[98,111,111,108,101,97,110,63]
 | .procQ=>[112,114,111,99,101,100,117,114,101,63]
 | .sealQ=>[115,101,97,108,63]
 | .not=>[110,111,116]
 | .eqQ=>[101,113,63]
 | .equalQ=>[101,113,117,97,108,63]
 | .list=>[108,105,115,116]
 | .length=>[108,101,110,103,116,104]
 | .append=>[97,112,112,101,110,100]
 | .strAppend=>[115,116,114,105,110,103,45,97,112,112,101,110,100]
 | .strLength=>[115,116,114,105,110,103,45,108,101,110,103,116,104]
 | .numStr=>[110,117,109,98,101,114,45,62,115,116,114,105,110,103]
 | .symStr=>[115,121,109,98,111,108,45,62,115,116,114,105,110,103]
 | .apply=>[97,112,112,108,121]
 | .callcc=>[99,97,108,108,47,99,99]
 | .wind=>[100,121,110,97,109,105,99,45,119,105,110,100]
 | .error=>[101,114,114,111,114]
 | .seal=>[115,101,97,108]
 | .write=>[119,114,105,116,101]
 | .readLine=>[114,101,97,100,45,108,105,110,101]
 | .tick=>[116,105,99,107]
 | .roll=>[114,111,108,108]
 | .unseal=>[117,110,115,101,97,108]
inductive Ex where
 |quo (d:Dt)
 |loc (up n:Nat)
 |glo (s:Bs)
 |ite (c t:Ex) (e:Option Ex)
 |setL (up n:Nat) (x:Ex)
 |setG (s:Bs) (x:Ex)
 |defG (s:Bs) (x:Ex)
 |lam (n:Nat) (rest:Bool) (body:List Ex)
 |app (f:Ex) (l:List Ex)
 |seq (x:Ex) (l:List Ex)
 |skip
inductive Tg where
 |loc (up n:Nat)
 |glo (s:Bs)
 |def' (s:Bs)
mutual
inductive Vl where
 |num (n:Int)
 |bool (b:Bool)
 |str (s:Bs)
 |sym (s:Bs)
 |nil
 |none
 |pair (id:Nat) (a b:Vl)
 |lam (id n:Nat) (rest:Bool) (body:List Ex) (env:Option Nat)
 |prim (p:Pm)
 |cont (id:Nat) (k:List Fr) (w:List Wn)
 |seal (id:Nat) (v:Vl)
 |sealD (id:Nat) (d:Dt)
 |grant (n:Nat)
inductive Fr where
 |ite (t:Ex) (e:Option Ex) (env:Option Nat)
 |set (t:Tg) (env:Option Nat)
 |body (l:List Ex) (env:Option Nat)
 |app (vs:List Vl) (l:List Ex) (env:Option Nat)
 |wind1 (a b c:Vl)
 |wind2 (c:Vl) (w:List Wn)
 |wind3 (v:Vl)
 |back (to:List Wn) (v:Vl) (k:List Fr)
 |into (now to:List Wn) (v:Vl) (k:List Fr)
inductive Wn where
 |mk (id:Nat) (a c:Vl)
end
def Wn.id:Wn->Nat| .mk i _ _=>i
def Wn.a:Wn->Vl| .mk _ a _=>a
def Wn.c:Wn->Vl| .mk _ _ c=>c
structure Ev where
 kind:Nat
 num:Int
 text:Bs
structure Sub where
 text:Bs
 secrets:List Bs
 lines:List Bs
 ticks:List Int
 draws:List Int
 grants:Int
 fuel:Int
 rewrites:Int
 quota:Int
 room:Int
structure Mc where
 steps:Nat:=0
 cells:Nat:=0
 out:Bs:=[]
 evs:List Ev:=[]
 glob:List (Bs×Vl):=[]
 envs:List (List Vl×Option Nat):=[]
 ids:Nat:=0
 wnd:List Wn:=[]
 lines:Nat:=0
 ticks:Nat:=0
 draws:Nat:=0
 raised:Bs:=[]
inductive Ct where
 |ev (x:Ex) (env:Option Nat) (k:List Fr)
 |ret (v:Vl) (k:List Fr)
 |ap (f:Vl) (l:List Vl) (k:List Fr)
 |done (v:Vl)
 |stop (verdict:Nat)
def step(S:Sub)(m:Mc):Except Nat Unit×Mc:=if(m.steps:Int)<S.fuel then(.ok (),{m with steps:=m.steps+1})else(.error 10,m)
def cell(S:Sub)(m:Mc):Except Nat Unit×Mc:=if(m.cells:Int)<S.quota then(.ok (),{m with cells:=m.cells+1})else(.error 11,m)
def cellsN(S:Sub):Nat->Mc->Except Nat Unit×Mc
 |0,m=>(.ok (),m)
 |n+1,m=>match cell S m with
  |(.ok _,m)=>cellsN S n m
  |(.error e,m)=>(.error e,m)
def mkList(m:Mc)(l:List Vl)(rest:Vl):Vl×Mc:=l.foldr (fun v (r:Vl×Mc)=>(.pair r.2.ids v r.1,{r.2 with ids:=r.2.ids+1})) (rest,m)
mutual
def members:Dt->Nat
 | .list l=>membersL l
 |_=>0
def membersL:List Dt->Nat
 | []=>0
 |d::r=>1+members d+membersL r
end
mutual
def ofDt(m:Mc):Dt->Vl×Mc
 | .num v=>(.num v,m)
 | .bool b=>(.bool b,m)
 | .str t=>(.str t,m)
 | .sym t _=>(.sym t,m)
 | .list l=>let (vs,m):=ofDts m l;mkList m vs .nil
def ofDts(m:Mc):List Dt->List Vl×Mc
 | []=>([],m)
 |d::r=>let (v,m):=ofDt m d;let (vs,m):=ofDts m r;(v::vs,m)
end
def atom:Vl->Bs
 | .num n=>Lib.itoa n
 | .bool b=>if b then [35,116]else [35,102]
 | .str s=>34::(s++[34])
 | .sym s=>s
 | .nil=>[40,41]
 | .none=>([35,60,110,111,116,104,105,110,103,62]:Bs)
 | .lam ..=>([35,60,112,114,111,99,101,100,117,114,101,62]:Bs)
 | .prim ..=>([35,60,112,114,111,99,101,100,117,114,101,62]:Bs)
 | .cont ..=>([35,60,112,114,111,99,101,100,117,114,101,62]:Bs)
 | .seal ..=>([35,60,115,101,97,108,62]:Bs)
 | .sealD ..=>([35,60,115,101,97,108,62]:Bs)
 | .grant ..=>([35,60,103,114,97,110,116,62]:Bs)
 | .pair ..=>[]
mutual
def wr:Vl->Bs
 | .pair _ a b=>40::(wr a++tl b)
 | .num n=>atom (.num n)| .bool n=>atom (.bool n)| .str n=>atom (.str n)| .sym n=>atom (.sym n)| .nil=>atom .nil| .none=>atom .none
 | .lam ..=>([35,60,112,114,111,99,101,100,117,114,101,62]:Bs)| .prim ..=>([35,60,112,114,111,99,101,100,117,114,101,62]:Bs)| .cont ..=>([35,60,112,114,111,99,101,100,117,114,101,62]:Bs)| .seal ..=>([35,60,115,101,97,108,62]:Bs)| .sealD ..=>([35,60,115,101,97,108,62]:Bs)| .grant ..=>([35,60,103,114,97,110,116,62]:Bs)
def tl:Vl->Bs
 | .pair _ a b=>32::(wr a++tl b)
 | .nil=>[41]
 | .num n=>[32,46,32]++(atom (.num n)++[41])| .bool n=>[32,46,32]++(atom (.bool n)++[41])| .str n=>[32,46,32]++(atom (.str n)++[41])| .sym n=>[32,46,32]++(atom (.sym n)++[41])| .none=>[32,46,32]++(atom .none++[41])
 | .lam ..=>[32,46,32]++(([35,60,112,114,111,99,101,100,117,114,101,62]:Bs)++[41])| .prim ..=>[32,46,32]++(([35,60,112,114,111,99,101,100,117,114,101,62]:Bs)++[41])| .cont ..=>[32,46,32]++(([35,60,112,114,111,99,101,100,117,114,101,62]:Bs)++[41])
 | .seal ..=>[32,46,32]++(([35,60,115,101,97,108,62]:Bs)++[41])| .sealD ..=>[32,46,32]++(([35,60,115,101,97,108,62]:Bs)++[41])| .grant ..=>[32,46,32]++(([35,60,103,114,97,110,116,62]:Bs)++[41])
end
def lookup(s:Bs):List (Bs×Vl)->Option Vl
 | []=>Option.none
 |(t,v)::r=>if t=s then some v else lookup s r
def put(s:Bs)(v:Vl):List (Bs×Vl)->List (Bs×Vl)
 | []=>[(s,v)]
 |(t,u)::r=>if t=s then(t,v)::r else(t,u)::put s v r
def outward(m:Mc):Option Nat->Nat->Option Nat
 |e,0=>e
 |Option.none,_=>Option.none
 |some i,n+1=>outward m (m.envs[i]?.bind (·.2)) n
def local'(m:Mc)(env:Option Nat)(up n:Nat):Vl:=match outward m env up with
 |some i=>((m.envs[i]?.map (·.1)).bind (·[n]?)).getD .none
 |Option.none=>.none
def setLocal(m:Mc)(env:Option Nat)(up n:Nat)(v:Vl):Mc:=match outward m env up with
 |some i=>{m with envs:=m.envs.modify i fun(l,u)=>(l.set n v,u)}
 |Option.none=>m
def eq:Vl->Vl->Bool
 | .num a,.num b=>a==b
 | .bool a,.bool b=>a==b
 | .str a,.str b=>a==b
 | .sym a,.sym b=>a==b
 | .nil,.nil=>true
 | .none,.none=>true
 | .pair i _ _,.pair j _ _=>i==j
 | .lam i _ _ _ _,.lam j _ _ _ _=>i==j
 | .prim a,.prim b=>a.name==b.name
 | .cont i _ _,.cont j _ _=>i==j
 | .seal i _,.seal j _=>i==j
 | .sealD i _,.sealD j _=>i==j
 | .grant a,.grant b=>a==b
 |_,_=>false
def equal(S:Sub):Vl->Vl->Mc->Except Nat Bool×Mc
 | .pair _ a b,.pair _ c d,m=>match step S m with
  |(.error e,m)=>(.error e,m)
  |(.ok _,m)=>match equal S a c m with
   |(.error e,m)=>(.error e,m)
   |(.ok false,m)=>(.ok false,m)
   |(.ok true,m)=>equal S b d m
 |a,b,m=>(.ok (eq a b),m)
def membersOf(S:Sub)(cells:Bool):Vl->Mc->Except Nat (List Vl)×Mc
 | .pair _ a b,m=>match step S m with
  |(.error e,m)=>(.error e,m)
  |(.ok _,m)=>match (if cells then cell S m else(.ok (),m))with
   |(.error e,m)=>(.error e,m)
   |(.ok _,m)=>match membersOf S cells b m with
    |(.error e,m)=>(.error e,m)
    |(.ok l,m)=>(.ok (a::l),m)
 | .nil,m=>(.ok [],m)
 |_,m=>(.error 6,m)
def isProc:Vl->Bool| .lam ..=>true| .prim ..=>true| .cont ..=>true|_=>false
def isSeal:Vl->Bool| .seal ..=>true| .sealD ..=>true|_=>false
inductive Kd where
 |any
 |num
 |str
 |sym
 |pair
 |proc
 |grant
 |seal
def Kd.ok:Kd->Vl->Bool
 | .any,_=>true
 | .num,.num _=>true
 | .str,.str _=>true
 | .sym,.sym _=>true
 | .pair,.pair ..=>true
 | .proc,v=>isProc v
 | .grant,.grant _=>true
 | .seal,v=>isSeal v
 |_,_=>false
def Pm.kinds:Pm->List Kd
 | .add=>[.num,.num]| .sub=>[.num,.num]| .mul=>[.num,.num]| .quot=>[.num,.num]| .rem=>[.num,.num]| .eql=>[.num,.num]| .lss=>[.num,.num]
 | .cons=>[.any,.any]| .eqQ=>[.any,.any]| .equalQ=>[.any,.any]| .append=>[.any,.any]
 | .car=>[.pair]| .cdr=>[.pair]
 | .strAppend=>[.str,.str]| .strLength=>[.str]| .numStr=>[.num]| .symStr=>[.sym]
 | .apply=>[.proc,.any]| .callcc=>[.proc]| .wind=>[.proc,.proc,.proc]
 | .write=>[.grant,.any]| .readLine=>[.grant]| .tick=>[.grant]| .roll=>[.grant,.num]| .unseal=>[.grant,.seal]
 |_=>[.any]
def Pm.grant:Pm->Nat
 | .write=>1| .readLine=>2| .tick=>4| .roll=>8| .unseal=>16
 |_=>0
def Pm.isList:Pm->Bool
 | .list=>true
 |_=>false
def fits(n:Int):Bool:=decide (-9223372036854775808<=n/\n<=9223372036854775807)
def num(n:Int):Except Nat Vl:=if fits n then .ok (.num n)else .error 8
def event(m:Mc)(k:Nat)(n:Int)(t:Bs):Mc:={m with evs:=m.evs++[⟨k,n,t⟩]}
def putOut(S:Sub):Bs->Mc->Except Nat Unit×Mc
 | [],m=>(.ok (),m)
 |c::r,m=>match step S m with
  |(.error e,m)=>(.error e,m)
  |(.ok _,m)=>if(m.out.length:Int)<S.room then putOut S r {m with out:=m.out++[c]}else(.error 13,m)
def new(S:Sub)(m:Mc)(v:Mc->Vl×Mc):Except Nat Vl×Mc:=match cell S m with
 |(.error e,m)=>(.error e,m)
 |(.ok _,m)=>let (v,m):=v m;(.ok v,m)
def value(S:Sub)(m:Mc):Pm->List Vl->Except Nat Vl×Mc
 | .add,[.num a,.num b]=>(num (a+b),m)
 | .sub,[.num a,.num b]=>(num (a-b),m)
 | .mul,[.num a,.num b]=>(num (a*b),m)
 | .quot,[.num a,.num b]=>(if b=0 then .error 8 else num (a.tdiv b),m)
 | .rem,[.num a,.num b]=>(if b=0 then .error 8 else .ok (.num (a.tmod b)),m)
 | .eql,[.num a,.num b]=>(.ok (.bool (a==b)),m)
 | .lss,[.num a,.num b]=>(.ok (.bool (decide (a<b))),m)
 | .cons,[a,b]=>new S m fun m=>(.pair m.ids a b,{m with ids:=m.ids+1})
 | .car,[.pair _ a _]=>(.ok a,m)
 | .cdr,[.pair _ _ b]=>(.ok b,m)
 | .eqQ,[a,b]=>(.ok (.bool (eq a b)),m)
 | .equalQ,[a,b]=>match equal S a b m with
  |(.error e,m)=>(.error e,m)
  |(.ok b,m)=>(.ok (.bool b),m)
 | .list,l=>match cellsN S l.length m with
  |(.error e,m)=>(.error e,m)
  |(.ok _,m)=>let (v,m):=mkList m l .nil;(.ok v,m)
 | .length,[a]=>match membersOf S false a m with
  |(.error e,m)=>(.error e,m)
  |(.ok l,m)=>(.ok (.num l.length),m)
 | .append,[a,b]=>match membersOf S true a m with
  |(.error e,m)=>(.error e,m)
  |(.ok l,m)=>let (v,m):=mkList m l b;(.ok v,m)
 | .error,[a]=>(.error 14,{m with raised:=(wr a).take 1200})
 | .seal,[a]=>new S m fun m=>(.seal m.ids a,{m with ids:=m.ids+1})
 | .strAppend,[.str x,.str y]=>if x.length+y.length<=1200 then new S m fun m=>(.str (x++y),m)else(.error 8,m)
 | .strLength,[.str x]=>(.ok (.num x.length),m)
 | .numStr,[.num n]=>new S m fun m=>(.str (Lib.itoa n),m)
 | .symStr,[.sym x]=>new S m fun m=>(.str x,m)
 | .not,[a]=>(.ok (.bool (match a with| .bool false=>true|_=>false)),m)
 | .nullQ,[a]=>(.ok (.bool (match a with| .nil=>true|_=>false)),m)
 | .pairQ,[a]=>(.ok (.bool (Kd.ok .pair a)),m)
 | .intQ,[a]=>(.ok (.bool (Kd.ok .num a)),m)
 | .symQ,[a]=>(.ok (.bool (Kd.ok .sym a)),m)
 | .strQ,[a]=>(.ok (.bool (Kd.ok .str a)),m)
 | .boolQ,[a]=>(.ok (.bool (match a with| .bool _=>true|_=>false)),m)
 | .procQ,[a]=>(.ok (.bool (isProc a)),m)
 | .sealQ,[a]=>(.ok (.bool (isSeal a)),m)
 | .write,[_,v]=>match putOut S (wr v) m with
  |(.error e,m)=>(.error e,m)
  |(.ok _,m)=>(.ok .none,event m 1 0 (wr v))
 | .readLine,[_]=>match S.lines[m.lines]? with
  |Option.none=>(.ok (.bool false),event m 2 m.lines [])
  |some t=>match cell S m with
   |(.error e,m)=>(.error e,m)
   |(.ok _,m)=>(.ok (.str t),event {m with lines:=m.lines+1} 2 ((m.lines:Int)+1) t)
 | .tick,[_]=>match S.ticks[m.ticks]? with
  |Option.none=>(.ok (.num 0),event m 4 0 [])
  |some n=>(.ok (.num n),event {m with ticks:=m.ticks+1} 4 n [])
 | .roll,[_,.num n]=>if n<1 then(.error 8,m)else
  let v:=S.draws[m.draws]?.getD 0
  let m:=if m.draws<S.draws.length then {m with draws:=m.draws+1}else m
  let v:=if v<0 then-(v+1)else v
  (.ok (.num (v.tmod n)),event m 8 (v.tmod n) [])
 | .unseal,[_,.seal _ v]=>(.ok v,event m 16 0 [])
 | .unseal,[_,.sealD _ d]=>match cellsN S (members d) m with
  |(.error e,m)=>(.error e,m)
  |(.ok _,m)=>let (v,m):=ofDt m d;(.ok v,event m 16 0 [])
 |_,_=>(.error 6,m)
def applyTo(S:Sub)(f:Vl)(l:List Vl)(k:List Fr)(m:Mc):Ct×Mc:=match step S m with
 |(.error e,m)=>(.stop e,m)
 |(.ok _,m)=>if isProc f then(.ap f l k,m)else(.stop 6,m)
def bodyOf(l:List Ex)(env:Option Nat)(k:List Fr):Ct:=match l with
 | []=>.ret .none k
 | [x]=>.ev x env k
 |x::r=>.ev x env (.body r env::k)
def rewind(S:Sub)(to:List Wn)(v:Vl)(k:List Fr)(m:Mc):Ct×Mc:=
 match m.wnd with
 |w::ws=>if to.any (fun u=>u.id==w.id)then enter to v k m else applyTo S w.c [] [.back to v k] {m with wnd:=ws}
 | []=>enter to v k m
 where
 enter (to:List Wn) (v:Vl) (k:List Fr) (m:Mc):Ct×Mc:=
  if to.length<=m.wnd.length then(.ret v k,m)
  else match to.drop (to.length-m.wnd.length-1)with
   |w::ws=>applyTo S w.a [] [.into (w::ws) to v k] m
   | []=>(.ret v k,m)
def granted(p:Pm):List Vl->Bool
 | .grant g::_=>g==p.grant
 |_=>false
def carry(S:Sub)(f:Vl)(l:List Vl)(k:List Fr)(m:Mc):Ct×Mc:=match f with
 | .lam _ n rest body env=>
  if rest then match cellsN S (1+l.length) m with
   |(.error e,m)=>(.stop e,m)
   |(.ok _,m)=>let (v,m):=mkList m l .nil;(bodyOf body (some m.envs.length) k,{m with envs:=m.envs++[([v],env)]})
  else if l.length≠n then(.stop 7,m)
  else match cellsN S n m with
   |(.error e,m)=>(.stop e,m)
   |(.ok _,m)=>(bodyOf body (some m.envs.length) k,{m with envs:=m.envs++[(l,env)]})
 | .cont _ at' w=>match l with
  | [v]=>rewind S w v at' m
  |_=>(.stop 7,m)
 | .prim p=>
  if !p.isList&&l.length !=p.kinds.length then(.stop 7,m)
  else if p.grant !=0&&!granted p l then(.stop 9,m)
  else if !p.isList&&(List.zip p.kinds l).any (fun q=>!q.1.ok q.2)then(.stop 6,m)
  else match p,l with
   | .apply,[f,x]=>match membersOf S false x m with
    |(.error e,m)=>(.stop e,m)
    |(.ok a,m)=>applyTo S f a k m
   | .callcc,[f]=>match cell S m with
    |(.error e,m)=>(.stop e,m)
    |(.ok _,m)=>applyTo S f [.cont m.ids k m.wnd] k {m with ids:=m.ids+1}
   | .wind,[a,b,c]=>applyTo S a [] (.wind1 a b c::k) m
   |p,l=>match value S m p l with
    |(.error e,m)=>(.stop e,m)
    |(.ok v,m)=>(.ret v k,m)
 |_=>(.stop 6,m)
def next(S:Sub):Ct->Mc->Ct×Mc
 | .done v,m=>(.done v,m)
 | .stop e,m=>(.stop e,m)
 | .ap f l k,m=>carry S f l k m
 | .ret v [],m=>(.done v,m)
 | .ret v (.ite t e env::k),m=>(match v with
   | .bool false=>(match e with|some e=>.ev e env k|Option.none=>.ret .none k)
   |_=>.ev t env k,m)
 | .ret v (.set t env::k),m=>match t with
  | .loc up n=>(.ret .none k,setLocal m env up n v)
  | .def' s=>(.ret .none k,{m with glob:=put s v m.glob})
  | .glo s=>if(lookup s m.glob).isSome then(.ret .none k,{m with glob:=put s v m.glob})else(.stop 5,m)
 | .ret _ (.body l env::k),m=>(bodyOf l env k,m)
 | .ret v (.app vs [] _::k),m=>match vs++[v]with
  |f::l=>applyTo S f l k m
  | []=>(.stop 7,m)
 | .ret v (.app vs (x::r) env::k),m=>(.ev x env (.app (vs++[v]) r env::k),m)
 | .ret _ (.wind1 a b c::k),m=>applyTo S b [] (.wind2 c m.wnd::k) {m with wnd:=.mk m.ids a c::m.wnd,ids:=m.ids+1}
 | .ret v (.wind2 c w::k),m=>applyTo S c [] (.wind3 v::k) {m with wnd:=w}
 | .ret _ (.wind3 v::k),m=>(.ret v k,m)
 | .ret _ (.back to v k::_),m=>rewind S to v k m
 | .ret _ (.into now to v k::_),m=>rewind S to v k {m with wnd:=now}
 | .ev .skip _ [],m=>(.ret .none [],m)
 | .ev x env k,m=>match step S m with
  |(.error e,m)=>(.stop e,m)
  |(.ok _,m)=>match x with
   | .quo d=>match cellsN S (members d) m with
    |(.error e,m)=>(.stop e,m)
    |(.ok _,m)=>let (v,m):=ofDt m d;(.ret v k,m)
   | .loc up n=>(.ret (local' m env up n) k,m)
   | .glo s=>match lookup s m.glob with
    |some v=>(.ret v k,m)
    |Option.none=>(.stop 5,m)
   | .ite c t e=>(.ev c env (.ite t e env::k),m)
   | .setL up n x=>(.ev x env (.set (.loc up n) env::k),m)
   | .setG s x=>(.ev x env (.set (.glo s) env::k),m)
   | .defG s x=>(.ev x env (.set (.def' s) env::k),m)
   | .lam n rest body=>match cell S m with
    |(.error e,m)=>(.stop e,m)
    |(.ok _,m)=>(.ret (.lam m.ids n rest body env) k,{m with ids:=m.ids+1})
   | .app f l=>(.ev f env (.app [] l env::k),m)
   | .seq x l=>(bodyOf (x::l) env k,m)
   | .skip=>(.ret .none k,m)
def go(S:Sub):Nat->Ct->Mc->Ct×Mc
 |0,c,m=>(c,m)
 |n+1,c,m=>match c with
  | .done v=>(.done v,m)
  | .stop e=>(.stop e,m)
  |c=>let (c,m):=next S c m;go S n c m
end Sc
end
section
namespace Sc
open Go
inductive Kw where
 |quote
 |ite
 |define
 |set
 |lambda
 |let'
 |begin
 |synx'
def Kw.of(s:Bs):Option Kw:=
 if s=[113,117,111,116,101]then some .quote
 else if s=[105,102]then some .ite
 else if s=[100,101,102,105,110,101]then some .define
 else if s=[115,101,116,33]then some .set
 else if s=[108,97,109,98,100,97]then some .lambda
 else if s=[108,101,116]then some .let'
 else if s=[98,101,103,105,110]then some .begin
 else if s=[100,101,102,105,110,101,45,115,121,110,116,97,120]then some .synx'
 else Option.none
abbrev Id:=Bs×Int
abbrev Scope:=List (List Id)
def findIn(i:Id):List Id->Option Nat
 | []=>Option.none
 |j::r=>if j=i then some 0 else(findIn i r).map (·+1)
def find(i:Id):Scope->Option (Nat×Nat)
 | []=>Option.none
 |l::r=>match findIn i l with
  |some n=>some (0,n)
  |Option.none=>(find i r).map (fun p=>(p.1+1,p.2))
inductive Tr where
 |one (d:Dt)
 |row (l:List Tr)
structure Macro where
 name:Bs
 lits:List Bs
 rules:List (List Dt×Dt)
structure Xs where
 count:Nat:=0
 macros:List Macro:=[]
def Xs.mcr(x:Xs)(s:Bs):Option Macro:=x.macros.find? (fun m=>m.name==s)
def Xs.drop(x:Xs)(s:Bs):Xs:={x with macros:=x.macros.filter (fun m=>!(m.name==s))}
inductive Mn where
 |var
 |kw (k:Kw)
 |mac (m:Macro)
def Xs.means(x:Xs)(i:Id)(sc:Scope):Mn:=match find i sc with
 |some _=>.var
 |Option.none=>match Kw.of i.1 with
  |some k=>.kw k
  |Option.none=>match x.mcr i.1 with
   |some m=>.mac m
   |Option.none=>.var
def dotsT:Bs:=[46,46,46]
def isDots:Dt->Bool
 | .sym t _=>t==dotsT
 |_=>false
def addBound(i:Id)(deep:Nat)(had:List (Id×Nat)):Option (List (Id×Nat)):=if had.any (fun b=>b.1==i)then Option.none else some (had++[(i,deep)])
mutual
def bound1(lits:List Bs)(deep:Nat)(had:List (Id×Nat)):Dt->Option (List (Id×Nat))
 | .list l=>bounds lits deep had l
 | .sym t m=>if lits.contains t||t== [95]then some had else addBound (t,m) deep had
 |_=>some had
def bounds(lits:List Bs)(deep:Nat)(had:List (Id×Nat)):List Dt->Option (List (Id×Nat))
 | []=>some had
 | [p]=>if isDots p then Option.none else bound1 lits deep had p
 |p::q::r=>
  if isDots p then Option.none
  else if r.isEmpty&&isDots q then bound1 lits (deep+1) had p
  else match bound1 lits deep had p with
   |Option.none=>Option.none
   |some had=>bounds lits deep had (q::r)
end
def deepOf(i:Id)(b:List (Id×Nat)):Option Nat:=(b.find? (fun p=>p.1==i)).map (·.2)
mutual
def fitsT(b:List (Id×Nat))(deep:Nat):Dt->Option Bool
 | .sym t m=>if t==dotsT then Option.none else match deepOf (t,m) b with
  |Option.none=>some false
  |some n=>if n==0 then some false else if n==deep then some true else Option.none
 | .list l=>fitsL b deep l
 |_=>some false
def fitsL(b:List (Id×Nat))(deep:Nat):List Dt->Option Bool
 | []=>some false
 | [t]=>fitsT b deep t
 |t::q::r=>
  if isDots q then
   match fitsT b (deep+1) t with
   |some true=>(fitsL b deep r).map (fun _=>true)
   |_=>Option.none
  else match fitsT b deep t with
   |Option.none=>Option.none
   |some a=>(fitsL b deep (q::r)).map (fun c=>a||c)
end
def ruleOk(lits:List Bs):Dt->Option (List Dt×Dt)
 | .list [.list (.sym t _::p),tm]=>
  if t==dotsT then Option.none
  else match bounds lits 0 [] p with
   |Option.none=>Option.none
   |some b=>match fitsT b 0 tm with
    |Option.none=>Option.none
    |some _=>some (p,tm)
 |_=>Option.none
def litsOf:List Dt->Option (List Bs)
 | []=>some []
 | .sym t _::r=>if t==dotsT then Option.none else(litsOf r).map (t::·)
 |_=>Option.none
def rulesOf(lits:List Bs):List Dt->Option (List (List Dt×Dt))
 | []=>some []
 |d::r=>match ruleOk lits d with
  |Option.none=>Option.none
  |some x=>(rulesOf lits r).map (x::·)
abbrev Bind:=List (Id×Tr)
mutual
def match1(lits:List Bs)(sc:Scope):Dt->Dt->Option Bind
 | .list p,.list l=>matchL lits sc p l
 | .list _,_=>Option.none
 | .num a,.num b=>if a==b then some []else Option.none
 | .bool a,.bool b=>if a==b then some []else Option.none
 | .str a,.str b=>if a==b then some []else Option.none
 | .sym t m,d=>
  if lits.contains t then
   match d with
   | .sym u k=>if u==t&&(find (u,k) sc).isNone then some []else Option.none
   |_=>Option.none
  else if t== [95]then some []
  else some [((t,m),.one d)]
 |_,_=>Option.none
def matchL(lits:List Bs)(sc:Scope):List Dt->List Dt->Option Bind
 | [],[]=>some []
 | [],_::_=>Option.none
 | [p],[d]=>match1 lits sc p d
 | [_],_=>Option.none
 |p::q::r,l=>
  if r.isEmpty&&isDots q then
   match l.mapM (fun d=>match1 lits sc p d)with
   |Option.none=>Option.none
   |some rows=>some ((((bound1 lits 0 [] p).getD []).zipIdx).map (fun b=>(b.1.1,.row (rows.map (fun t=>(t[b.2]?.map (·.2)).getD (.row []))))))
  else match l with
   | []=>Option.none
   |d::l=>match match1 lits sc p d with
    |Option.none=>Option.none
    |some a=>(matchL lits sc (q::r) l).map (a++·)
end
mutual
def stands(i:Id):Dt->Bool
 | .sym t m=>(t,m)==i
 | .list l=>standsL i l
 |_=>false
def standsL(i:Id):List Dt->Bool
 | []=>false
 |d::r=>stands i d||standsL i r
end
def rowLen(t:Dt):Bind->Option (Option Nat)
 | []=>some Option.none
 |(i,.row l)::r=>match rowLen t r with
  |Option.none=>Option.none
  |some n=>if stands i t then(match n with
    |Option.none=>some (some l.length)
    |some k=>if k==l.length then some (some k)else Option.none)
   else some n
 |(_,.one _)::r=>rowLen t r
def eachOf(t:Dt)(k:Nat):Bind->Bind
 | []=>[]
 |(i,.row l)::r=>(if stands i t then(i,l[k]?.getD (.row []))else(i,.row l))::eachOf t k r
 |(i,.one d)::r=>(i,.one d)::eachOf t k r
mutual
def putT(mark:Int)(b:Bind):Dt->Option Dt
 | .sym t m=>match b.find? (fun x=>x.1==(t,m))with
  |Option.none=>some (.sym t mark)
  |some (_,.one d)=>some d
  |some (_,.row _)=>Option.none
 | .list l=>(putL mark b l).map .list
 |d=>some d
def putL(mark:Int)(b:Bind):List Dt->Option (List Dt)
 | []=>some []
 | [t]=>(putT mark b t).map ([·])
 |t::q::r=>
  if isDots q then
   match rowLen t b with
   |Option.none=>Option.none
   |some n=>match (List.range (n.getD 0)).mapM (fun k=>putT mark (eachOf t k b) t)with
    |Option.none=>Option.none
    |some a=>(putL mark b r).map (a++·)
  else match putT mark b t with
   |Option.none=>Option.none
   |some a=>(putL mark b (q::r)).map (a::·)
end
mutual
def parts:Dt->Nat
 | .list l=>1+partsL l
 |_=>1
def partsL:List Dt->Nat
 | []=>0
 |d::r=>parts d+partsL r
end
def use(S:Sub)(x:Xs)(mc:Macro)(args:List Dt)(sc:Scope):Except Nat (Dt×Xs)×Xs:=
 if S.rewrites<=(x.count:Int)then(.error 12,x)
 else
  let x:={x with count:=x.count+1}
  match mc.rules.findSome? (fun r=>(matchL mc.lits sc r.1 args).map (fun b=>(b,r.2)))with
  |Option.none=>(.error 4,x)
  |some (b,t)=>match putT x.count b t with
   |Option.none=>(.error 4,x)
   |some d=>if parts d<=600 then(.ok (d,x),x)else(.error 4,x)
def idOf:Dt->Option Id
 | .sym t m=>some (t,m)
 |_=>Option.none
def distinct:List Id->Bool
 | []=>true
 |i::r=>!r.contains i&&distinct r
def idsOf:List Dt->Option (List Id)
 | []=>some []
 | .sym t m::r=>(idsOf r).map ((t,m)::·)
 |_=>Option.none
def bindings:List Dt->Option (List Dt×List Dt)
 | []=>some ([],[])
 | .list [n,v]::r=>(bindings r).map (fun p=>(n::p.1,v::p.2))
 |_=>Option.none
def varEx(x:Xs)(i:Id)(sc:Scope):Option Ex:=match x.means i sc with
 | .var=>some (match find i sc with|some (u,n)=>.loc u n|Option.none=>.glo i.1)
 |_=>Option.none
mutual
def form(S:Sub):Nat->Xs->Scope->Dt->Except Nat Ex×Xs
 |0,x,_,_=>(.error 0,x)
 |f+1,x,sc,d=>match d with
  | .sym t m=>(match varEx x (t,m) sc with|some e=>.ok e|Option.none=>.error 4,x)
  | .list []=>(.error 4,x)
  | .list (.sym t m::r)=>match x.means (t,m) sc with
   | .var=>app S f x sc (.sym t m::r)
   | .mac mc=>match use S x mc r sc with
    |(.error e,x)=>(.error e,x)
    |(.ok (d,x),_)=>form S f x sc d
   | .kw k=>keyword S f x sc k r
  | .list l=>app S f x sc l
  |d=>(.ok (.quo d),x)
def app(S:Sub):Nat->Xs->Scope->List Dt->Except Nat Ex×Xs
 |0,x,_,_=>(.error 0,x)
 |f+1,x,sc,l=>match forms S f x sc l with
  |(.ok (e::r),x)=>(.ok (.app e r),x)
  |(.ok [],x)=>(.error 4,x)
  |(.error e,x)=>(.error e,x)
def forms(S:Sub):Nat->Xs->Scope->List Dt->Except Nat (List Ex)×Xs
 |0,x,_,_=>(.error 0,x)
 |_+1,x,_,[]=>(.ok [],x)
 |f+1,x,sc,d::r=>match form S f x sc d with
  |(.error e,x)=>(.error e,x)
  |(.ok a,x)=>match forms S f x sc r with
   |(.error e,x)=>(.error e,x)
   |(.ok l,x)=>(.ok (a::l),x)
def lambda(S:Sub):Nat->Xs->Scope->Dt->List Dt->Except Nat Ex×Xs
 |0,x,_,_,_=>(.error 0,x)
 |f+1,x,sc,p,body=>
  let ps:Option (List Id×Bool):=match p with
   | .sym t m=>some ([(t,m)],true)
   | .list l=>(idsOf l).bind (fun is=>if distinct is then some (is,false)else Option.none)
   |_=>Option.none
  match ps with
  |Option.none=>(.error 4,x)
  |some (is,rest)=>match forms S f x (is::sc) body with
   |(.error e,x)=>(.error e,x)
   |(.ok b,x)=>(.ok (.lam is.length rest b),x)
def keyword(S:Sub):Nat->Xs->Scope->Kw->List Dt->Except Nat Ex×Xs
 |0,x,_,_,_=>(.error 0,x)
 |f+1,x,sc,k,l=>match k,l with
  | .quote,[d]=>(.ok (.quo d),x)
  | .ite,[a,b]=>match forms S f x sc [a,b]with
   |(.ok [a,b],x)=>(.ok (.ite a b Option.none),x)
   |(.ok _,x)=>(.error 4,x)
   |(.error e,x)=>(.error e,x)
  | .ite,[a,b,c]=>match forms S f x sc [a,b,c]with
   |(.ok [a,b,c],x)=>(.ok (.ite a b (some c)),x)
   |(.ok _,x)=>(.error 4,x)
   |(.error e,x)=>(.error e,x)
  | .begin,b::r=>match forms S f x sc (b::r)with
   |(.ok (b::r),x)=>(.ok (.seq b r),x)
   |(.ok [],x)=>(.error 4,x)
   |(.error e,x)=>(.error e,x)
  | .set,[v,a]=>match (idOf v).bind (fun i=>varEx x i sc)with
   |Option.none=>(.error 4,x)
   |some t=>match form S f x sc a with
    |(.error e,x)=>(.error e,x)
    |(.ok a,x)=>(match t with| .loc u n=>.ok (.setL u n a)| .glo s=>.ok (.setG s a)|_=>.error 4,x)
  | .lambda,p::b::r=>lambda S f x sc p (b::r)
  | .let',.list bs::b::r=>match bindings bs with
   |Option.none=>(.error 4,x)
   |some (ns,vs)=>match lambda S f x sc (.list ns) (b::r)with
    |(.error e,x)=>(.error e,x)
    |(.ok g,x)=>match forms S f x sc vs with
     |(.error e,x)=>(.error e,x)
     |(.ok vs,x)=>(.ok (.app g vs),x)
  |_,_=>(.error 4,x)
end
def define(S:Sub)(f:Nat)(x:Xs)(l:List Dt):Except Nat Ex×Xs:=match l with
 | [.sym t _,a]=>match Kw.of t with
  |some _=>(.error 4,x)
  |Option.none=>match form S f (x.drop t) [] a with
   |(.error e,x)=>(.error e,x)
   |(.ok a,x)=>(.ok (.defG t a),x)
 | .list (.sym t _::ps)::b::r=>match Kw.of t with
  |some _=>(.error 4,x)
  |Option.none=>match lambda S f (x.drop t) [] (.list ps) (b::r)with
   |(.error e,x)=>(.error e,x)
   |(.ok a,x)=>(.ok (.defG t a),x)
 |_=>(.error 4,x)
def syntaxRules:Bs:=[115,121,110,116,97,120,45,114,117,108,101,115]
def syntaxF(x:Xs)(l:List Dt):Except Nat Ex×Xs:=match l with
 | [.sym t _,.list (.sym u _::.list ls::rs)]=>
  if(Kw.of t).isSome||!(u==syntaxRules)then(.error 4,x)
  else match litsOf ls with
   |Option.none=>(.error 4,x)
   |some lits=>match rulesOf lits rs with
    |Option.none=>(.error 4,x)
    |some rules=>let x:=x.drop t;(.ok .skip,{x with macros:=x.macros++[⟨t,lits,rules⟩]})
 |_=>(.error 4,x)
def top(S:Sub):Nat->Xs->Dt->Except Nat Ex×Xs
 |0,x,_=>(.error 0,x)
 |f+1,x,d=>match d with
  | .list (.sym t m::r)=>match x.means (t,m) []with
   | .kw .define=>define S f x r
   | .kw .synx'=>syntaxF x r
   | .mac mc=>match use S x mc r []with
    |(.error e,x)=>(.error e,x)
    |(.ok (d,x),_)=>top S f x d
   |_=>form S (f+1) x [] d
  |d=>form S (f+1) x [] d
def plentyN:Nat:=1000000000
def deal(S:Sub):List (Dt×Nat)->Option Vl->Xs->Mc->(Option Nat×Nat)×Option Vl×Xs×Mc
 | [],v,x,m=>((Option.none,0),v,x,m)
 |(d,p)::r,v,x,m=>match top S plentyN x d with
  |(.error e,x)=>((some e,p),v,x,m)
  |(.ok e,x)=>match go S plentyN (.ev e Option.none []) m with
   |(.done v,m)=>deal S r (some v) x m
   |(.stop e,m)=>((some e,p),v,x,m)
   |(_,m)=>((some 0,p),v,x,m)
end Sc
end
section
namespace Sc
open Go
theorem qjn(S:Sub)(n:Nat)(v:Vl)(m:Mc):go S n (.done v) m=(.done v,m):=by
 cases n <;> rfl
theorem qjm(S:Sub)(n:Nat)(e:Nat)(m:Mc):go S n (.stop e) m=(.stop e,m):=by
 cases n <;> rfl
theorem qjl(S:Sub)(n:Nat)(c:Ct)(m:Mc):go S (n+1) c m=go S n (next S c m).1 (next S c m).2:=by
 cases c with
 |done v=>rw[qjn];show _=go S n (.done v) m;rw[qjn]
 |stop e=>rw[qjm];show _=go S n (.stop e) m;rw[qjm]
 |_=>rfl
theorem qkt(S:Sub):∀(a b:Nat) (c:Ct) (m:Mc),go S (a+b) c m=go S b (go S a c m).1 (go S a c m).2
 |0,b,c,m=>by rw[Nat.zero_add];rfl
 |a+1,b,c,m=>by
  rw[show a+1+b=(a+b)+1 from by omega,qjl,qkt S a b,qjl S a]
def ToN(S:Sub)(j:Nat)(c:Ct)(m:Mc)(c':Ct)(m':Mc):Prop:=go S j c m=(c',m')
theorem ToN.trans{S:Sub}{i j:Nat}{a b c:Ct}{x y z:Mc}(h:ToN S i a x b y)(k:ToN S j b y c z):ToN S (i+j) a x c z:=by
 unfold ToN at*;rw[qkt,h];exact k
theorem ToN.one{S:Sub}{c c':Ct}{m m':Mc}(h:next S c m=(c',m')):ToN S 1 c m c' m':=by
 unfold ToN;rw[show(1:Nat)=0+1 from rfl,qjl,h];rfl
theorem ToN.head{S:Sub}{j:Nat}{c c' c'':Ct}{m m' m'':Mc}(h:next S c m=(c',m'))(k:ToN S j c' m' c'' m''):ToN S (j+1) c m c'' m'':=by
 rw[Nat.add_comm];exact(ToN.one h).trans k
theorem ToN.done{S:Sub}{j n:Nat}{c:Ct}{m m':Mc}{v:Vl}(h:ToN S j c m (.done v) m')(hn:j<=n):go S n c m=(.done v,m'):=by
 obtain⟨b,rfl⟩:∃b,n=j+b:=⟨n-j,by omega⟩;rw[qkt,show go S j c m=(.done v,m')from h];exact qjn _ _ _ _
theorem ToN.stop{S:Sub}{j n:Nat}{c:Ct}{m m':Mc}{e:Nat}(h:ToN S j c m (.stop e) m')(hn:j<=n):go S n c m=(.stop e,m'):=by
 obtain⟨b,rfl⟩:∃b,n=j+b:=⟨n-j,by omega⟩;rw[qkt,show go S j c m=(.stop e,m')from h];exact qjm _ _ _ _
theorem step_ok{S:Sub}{m:Mc}(h:(m.steps:Int)<S.fuel):step S m=(.ok (),{m with steps:=m.steps+1}):=by unfold step;rw[if_pos h]
def plenty(t:Bs):Sub:=⟨t,[],[],[],[],0,20000,500,5000,2000⟩
def mostP:List Pm:=[.add,.sub,.mul,.quot,.rem,.eql,.lss,.nullQ,.pairQ,.intQ,.symQ,.strQ,.boolQ,.procQ,.sealQ,.not,.eqQ,.equalQ,.cons,.car,.cdr,.list,.length,.append,.strAppend,.strLength,.numStr,.symStr,.apply,.callcc,.wind,.error,.seal]
def m0:Mc:={({}:Mc)with glob:=([([115,101,99,114,101,116,115],.nil),([111,117,116],.bool false),([105,110],.bool false),([99,108,111,99,107],.bool false),([100,105,99,101],.bool false),([107,101,121],.bool false)]:List (Bs×Vl)).foldl (fun g p=>put p.1 p.2 g) (mostP.foldl (fun g p=>put p.name (.prim p) g) [])}
end Sc
end
section
namespace Py
open Go
open Px (digB wordB endB strB skip unsign numB quoteT skip_idem skip_suf Free Starts qa3 qd7 qg3 qf2 qdb qhl qkp qfq)
def Reads(d:Nat)(u:List UInt8)(t:Dt):Prop:=∀F rest,2*(u.length+rest.length)+1<=F->Free rest->rd F false d (u++rest)=.inr ([t],rest)
theorem qcg(t:Dt)(rest:List UInt8)(h:Free rest):closed t rest=.inr ([t],rest):=by
 cases rest with
 |nil=>rfl
 |cons c r=>simp[closed,h c r rfl]
theorem qff(d:Nat)(w:List UInt8)(t:Dt)(hw:w.all wordB=true)(hne:w≠[])(h:∀rest,Free rest->wordOf w rest=.inr ([t],rest)):Reads d w t/\Starts w:=by
 cases w with
 |nil=>exact absurd rfl hne
 |cons c r=>
  have h1:wordB c=true/\r.all wordB=true:=by simpa using hw
  have hc:=qd7 c h1.1;refine⟨?_,c,r,rfl,hc.1,hc.2.1,hc.2.2.1,hc.2.2.2.1⟩;intro F rest hF hr;obtain⟨f,rfl⟩:∃f,F=f+1:=⟨F-1,by omega⟩;rw[List.cons_append,rd,qa3 c _ hc.1 hc.2.1 hc.2.2.1];simp only;rw[if_neg hc.2.2.2.2.1,if_neg hc.2.2.2.2.2.1,if_neg hc.2.2.2.2.2.2.1,if_neg hc.2.2.2.2.2.2.2,if_pos h1.1];have ht:=qg3 (c::r) rest hw hr;rw[<-List.cons_append];unfold word;rw[ht.1,ht.2];exact h rest hr
theorem num_reads(d:Nat)(v:Int)(h0:-9223372036854775808<=v)(h1:v<=9223372036854775807):Reads d (Lib.itoa v) (.num v)/\Starts (Lib.itoa v):=by
 have hw:=qhl v;refine qff d _ _ hw.1 hw.2 (fun rest hr=>?_);unfold wordOf;rw[if_pos (qkp v),qfq v h0 h1];exact qcg _ _ hr
theorem sym_reads(d:Nat)(w:List UInt8)(hw:w.all wordB=true)(hne:w≠[])(hn:numB w=false)(hl:¬24<w.length):Reads d w (.sym w 0)/\Starts w:=by
 refine qff d _ _ hw hne (fun rest hr=>?_);unfold wordOf;rw[if_neg (by simp[hn]),if_neg hl];exact qcg _ _ hr
theorem qrl(F:Nat)(b:Bool)(d:Nat)(l:List UInt8):rd F b d (32::l)=rd F b d l:=by
 rw[<-rd_skip F b d (32::l),<-rd_skip F b d l];rfl
inductive Rows (d:Nat):List (List UInt8)->List Dt->Prop
 |nil:Rows d [] []
 |cons {u:List UInt8} {t:Dt} {us:List (List UInt8)} {ts:List Dt}:Reads d u t->Starts u->Rows d us ts->Rows d (u::us) (t::ts)
theorem qfp(d:Nat):∀(us:List (List UInt8)) (ts:List Dt),Rows d us ts->∀F rest,2*((Px.join us).length+1+rest.length)+2<=F->rd F true d (Px.join us++41::rest)=.inr (ts,rest)
 | [],_,.nil,F,rest,hF=>by
  obtain⟨f,rfl⟩:∃f,F=f+1:=⟨F-1,by omega⟩;exact rd_true_close f d 41 rest rfl
 | [u],_,.cons (t:=t) hr ⟨c,r,hc,h1,h2,h3,h4⟩ .nil,F,rest,hF=>by
  obtain⟨f,rfl⟩:∃f,F=f+1:=⟨F-1,by omega⟩;have hj:Px.join [u]=u:=by simp[Px.join]
  rw[hj]at hF|-;have hk:skip false (u++41::rest)=u++41::rest:=by rw[hc,List.cons_append];exact qa3 c _ h1 h2 h3
  have hx:=hr f (41::rest) (by simp;omega) (qdb _ _ (by decide));rw[rd_true_more f d _ hk (by rw[hc];intro c' r' e;simp at e;rw[<-e.1];exact h4) _ _ hx,rd_skip];obtain⟨g,rfl⟩:∃g,f=g+1:=⟨f-1,by omega⟩;rw[rd_true_close g d 41 rest rfl];rfl
 |u::u2::v,_,.cons (t:=t) hr ⟨c,r,hc,h1,h2,h3,h4⟩ hrest,F,rest,hF=>by
  obtain⟨f,rfl⟩:∃f,F=f+1:=⟨F-1,by omega⟩;have hj:Px.join (u::u2::v)=u++32::Px.join (u2::v):=rfl;rw[hj]at hF|-;have e:(u++32::Px.join (u2::v))++41::rest=u++(32::(Px.join (u2::v)++41::rest)):=by simp
  rw[e];have hk:skip false (u++(32::(Px.join (u2::v)++41::rest)))=u++(32::(Px.join (u2::v)++41::rest)):=by rw[hc,List.cons_append];exact qa3 c _ h1 h2 h3
  have hx:=hr f (32::(Px.join (u2::v)++41::rest)) (by simp at hF|-;omega) (qdb _ _ (by decide));have ht:1<=u.length:=by rw[hc];simp
  rw[rd_true_more f d _ hk (by rw[hc];intro c' r' e;simp at e;rw[<-e.1];exact h4) _ _ hx,rd_skip,qrl,qfp d (u2::v) _ hrest f rest (by simp at hF|-;omega)];rfl
theorem list_reads(d:Nat)(hd:d≠30)(us:List (List UInt8))(ts:List Dt)(hy:Rows (d+1) us ts):Reads d (Px.paren us) (.list ts)/\Starts (Px.paren us):=by
 refine⟨?_,40,_,rfl,by decide,by decide,by decide,by decide⟩;intro F rest hF hr;obtain⟨f,rfl⟩:∃f,F=f+1:=⟨F-1,by omega⟩;have e:Px.paren us++rest=40::(Px.join us++41::rest):=by simp[Px.paren]
 have hl:(Px.paren us).length=(Px.join us).length+2:=by simp[Px.paren]
 rw[e,rd,qa3 40 _ (by decide) (by decide) (by decide)];simp only;rw[if_pos (by decide),if_neg hd,qfp (d+1) us ts hy f rest (by omega)]
theorem qee(d:Nat)(hd:d≠30)(u:List UInt8)(t:Dt)(h:Reads (d+1) u t):Reads d (39::u) (.list [.sym quoteT 0,t])/\Starts (39::u):=by
 refine⟨?_,39,_,rfl,by decide,by decide,by decide,by decide⟩;intro F rest hF hr;obtain⟨f,rfl⟩:∃f,F=f+1:=⟨F-1,by omega⟩;rw[List.cons_append,rd,qa3 39 _ (by decide) (by decide) (by decide)];simp only;rw[if_neg (by decide),if_pos (by decide),if_neg hd,h f rest (by simp at hF;omega) hr]
theorem qnj(f:Nat)(u rest:List UInt8)(t:Dt)(h:Reads 0 u t)(hs:Starts u)(hr:Free rest)(hf:2*(u.length+rest.length)+2<=f):
  topP f (u++rest)=preP [(t,u.length+rest.length)] (topP (f-1) rest):=by
 obtain⟨g,rfl⟩:∃g,f=g+1:=⟨f-1,by omega⟩;obtain⟨c,r,hc,h1,h2,h3,_⟩:=hs;have hk:skip false (u++rest)=u++rest:=by rw[hc,List.cons_append];exact qa3 c _ h1 h2 h3
 have hx:=h g rest (by omega) hr;have hl:(u++rest).length=u.length+rest.length:=List.length_append;rw[topP,hk,<-hl];rw[hc,List.cons_append]at hx|-;simp only;rw[hx];simp only[Nat.add_sub_cancel];rcases topP g rest with e|⟨xs,rr⟩
 ·rfl
 ·simp[preP]
end Py
end
section
namespace Py
open Go
open Px (digB wordB endB strB skip numB quoteT Free Starts qa3 qf2 qdb)
theorem qd8(d:Nat)(b:Bool):Reads d (Dt.wr (.bool b)) (.bool b)/\Starts (Dt.wr (.bool b)):=by
 cases b
 ·refine⟨?_,35,[102],rfl,by decide,by decide,by decide,by decide⟩;intro F rest hF hr;obtain⟨f,rfl⟩:∃f,F=f+1:=⟨F-1,by omega⟩;show rd (f+1) false d (35::102::rest)=_;rw[rd,qa3 35 _ (by decide) (by decide) (by decide)];show truth (102::rest)=_;exact qcg _ _ hr
 ·refine⟨?_,35,[116],rfl,by decide,by decide,by decide,by decide⟩;intro F rest hF hr;obtain⟨f,rfl⟩:∃f,F=f+1:=⟨F-1,by omega⟩;show rd (f+1) false d (35::116::rest)=_;rw[rd,qa3 35 _ (by decide) (by decide) (by decide)];show truth (116::rest)=_;exact qcg _ _ hr
theorem qg5(d:Nat)(u:List UInt8)(hu:u.all strB=true):Reads d (34::(u++[34])) (.str u)/\Starts (34::(u++[34])):=by
 refine⟨?_,34,_,rfl,by decide,by decide,by decide,by decide⟩;intro F rest hF hr;obtain⟨f,rfl⟩:∃f,F=f+1:=⟨F-1,by omega⟩;have e:(34::(u++[34]))++rest=34::(u++34::rest):=by simp
 rw[e,rd,qa3 34 _ (by decide) (by decide) (by decide)];show str (u++34::rest)=_;have ht:=qf2 u rest hu;unfold str;rw[ht.2,ht.1];rfl
mutual
def wf(d:Nat):Dt->Bool
 | .num _=>true
 | .bool _=>true
 | .str s=>s.all strB
 | .sym s m=>m==0&&s.all wordB&&!s.isEmpty&&!numB s&&decide (s.length<=24)
 | .list l=>!(d==30)&&wfL (d+1) l
def wfL(d:Nat):List Dt->Bool
 | []=>true
 |t::r=>wf d t&&wfL d r
end
mutual
def nums:Dt->List Int
 | .num v=>[v]
 | .list l=>numsL l
 |_=>[]
def numsL:List Dt->List Int
 | []=>[]
 |t::r=>nums t++numsL r
end
def inR(v:Int):Prop:=-9223372036854775808<=v/\v<=9223372036854775807
mutual
theorem qf0:∀(t:Dt) (d:Nat),wf d t=true->(∀v,v∈nums t->inR v)->Reads d t.wr t/\Starts t.wr
 | .num v,d,_,hn=>num_reads d v (hn v (by simp[nums])).1 (hn v (by simp[nums])).2
 | .bool b,d,_,_=>qd8 d b
 | .str s,d,h,_=>qg5 d s h
 | .sym s m,d,h,_=>by
  simp only[wf,Bool.and_eq_true,beq_iff_eq,Bool.not_eq_true',decide_eq_true_eq]at h;obtain⟨⟨⟨⟨h1,h2⟩,h3⟩,h4⟩,h5⟩:=h;subst h1;exact sym_reads d s h2 (by intro e;subst e;simp at h3) h4 (by omega)
 | .list l,d,h,hn=>by
  simp only[wf,Bool.and_eq_true,Bool.not_eq_true',beq_eq_false_iff_ne]at h;have hr:=qg1 l (d+1) h.2 hn;have:=list_reads d h.1 (Dt.wrs l) l hr;exact this
theorem qg1:∀(l:List Dt) (d:Nat),wfL d l=true->(∀v,v∈numsL l->inR v)->Rows d (Dt.wrs l) l
 | [],_,_,_=>.nil
 |t::r,d,h,hn=>by
  simp only[wfL,Bool.and_eq_true]at h;have h1:=qf0 t d h.1 (fun v hv=>hn v (by simp[numsL,hv]));exact .cons h1.1 h1.2 (qg1 r d h.2 (fun v hv=>hn v (by simp[numsL,hv])))
end
mutual
def wq:Dt->List UInt8
 | .num v=>Lib.itoa v
 | .bool b=>if b then [35,116]else [35,102]
 | .str t=>34::(t++[34])
 | .sym t _=>t
 | .list []=>Px.paren []
 | .list [.sym s m,x]=>if s==quoteT&&m==0 then 39::wq x else Px.paren [s,wq x]
 | .list (x::l)=>Px.paren (wq x::wqs l)
def wqs:List Dt->List (List UInt8)
 | []=>[]
 |d::r=>wq d::wqs r
end
mutual
theorem wq_reads:∀(t:Dt) (d:Nat),wf d t=true->(∀v,v∈nums t->inR v)->Reads d (wq t) t/\Starts (wq t)
 | .num v,d,_,hn=>num_reads d v (hn v (by simp[nums])).1 (hn v (by simp[nums])).2
 | .bool b,d,_,_=>qd8 d b
 | .str s,d,h,_=>qg5 d s h
 | .sym s m,d,h,hn=>qf0 (.sym s m) d h hn
 | .list [],d,h,hn=>by
  simp only[wf,Bool.and_eq_true,Bool.not_eq_true',beq_eq_false_iff_ne]at h;exact list_reads d h.1 [] [] .nil
 | .list [.sym s m,x],d,h,hn=>by
  simp only[wf,wfL,Bool.and_eq_true,Bool.not_eq_true',beq_eq_false_iff_ne]at h;have hx:=wq_reads x (d+1) h.2.2.1 (fun v hv=>hn v (by simp[nums,numsL,hv]));have hs:=qf0 (.sym s m) (d+1) (by simp only[wf,Bool.and_eq_true,Bool.not_eq_true'];exact h.2.1) (fun v hv=>by simp[nums]at hv);rw[wq];by_cases hq:(s==quoteT&&m==0)=true
  ·rw[if_pos hq];simp only[Bool.and_eq_true,beq_iff_eq]at hq;obtain⟨rfl,rfl⟩:=hq;exact qee d h.1 _ _ hx.1
  ·rw[if_neg hq];exact list_reads d h.1 _ _ (.cons hs.1 hs.2 (.cons hx.1 hx.2 .nil))
 | .list (x::l),d,h,hn=>by
  simp only[wf,wfL,Bool.and_eq_true,Bool.not_eq_true',beq_eq_false_iff_ne]at h;have hx:=wq_reads x (d+1) h.2.1 (fun v hv=>hn v (by simp[nums,numsL,hv]));have hl:=qg0 l (d+1) h.2.2 (fun v hv=>hn v (by simp[nums,numsL,hv]));have hr:=list_reads d h.1 _ _ (.cons hx.1 hx.2 hl);cases x with
  |sym s m=>
   cases l with
   |nil=>exact hr
   |cons y l=>
    cases l with
    |nil=>
     have hy:=wq_reads y (d+1) (by simp only[wfL,Bool.and_eq_true]at h;exact h.2.2.1) (fun v hv=>hn v (by simp[nums,numsL,hv]));rw[wq];by_cases hq:(s==quoteT&&m==0)=true
     ·rw[if_pos hq];simp only[Bool.and_eq_true,beq_iff_eq]at hq;obtain⟨rfl,rfl⟩:=hq;exact qee d h.1 _ _ hy.1
     ·rw[if_neg hq];exact hr
    |cons z l=>exact hr
  |_=>exact hr
theorem qg0:∀(l:List Dt) (d:Nat),wfL d l=true->(∀v,v∈numsL l->inR v)->Rows d (wqs l) l
 | [],_,_,_=>.nil
 |t::r,d,h,hn=>by
  simp only[wfL,Bool.and_eq_true]at h;have h1:=wq_reads t d h.1 (fun v hv=>hn v (by simp[numsL,hv]));exact .cons h1.1 h1.2 (qg0 r d h.2 (fun v hv=>hn v (by simp[numsL,hv])))
end
inductive Forms:List UInt8->List (Dt×Nat)->Prop
 |nil:Forms [] []
 |cons {u rest:List UInt8} {t:Dt} {fs:List (Dt×Nat)}:Reads 0 u t->Starts u->Free rest->Forms rest fs->Forms (u++rest) ((t,u.length+rest.length)::fs)
theorem forms_top:∀{l:List UInt8} {fs:List (Dt×Nat)},Forms l fs->∀f,2*l.length+2<=f->topP f l=.inr (fs,[])
 |_,_,.nil,f,hf=>by
  obtain⟨g,rfl⟩:∃g,f=g+1:=⟨f-1,by omega⟩;rfl
 |_,_,.cons (u:=u) (rest:=rest) (t:=t) (fs:=fs) h1 h2 h3 h4,f,hf=>by
  have hl:(u++rest).length=u.length+rest.length:=List.length_append;have hu:1<=u.length:=by obtain⟨c,r,e,_⟩:=h2;rw[e];simp
  rw[qnj f u rest t h1 h2 h3 (by omega),forms_top h4 (f-1) (by omega)];rfl
end Py
namespace Sc
open Go
def noSyn(d:Dt):Bool:=match d with
 | .list (.sym s _::_)=>!(s== [100,101,102,105,110,101,45,115,121,110,116,97,120])
 |_=>true
def Does(t:Bs)(r:(Option Nat×Nat)×Option Vl×Xs×Mc):Prop:=∃fs,Py.Forms t fs/\t.length<=1200/\(∀f,f∈fs->noSyn f.1=true)/\deal (plenty t) (fs.map (fun f=>(f.1,t.length-f.2))) Option.none {} m0=r
def EndsW(r:(Option Nat×Nat)×Option Vl×Xs×Mc)(v:Bs):Prop:=r.1.1=Option.none/\r.2.1.map wr=some v/\r.2.2.2.out=[]/\r.2.2.2.evs=[]
def textOf(ds:List Dt):Bs:=(ds.map Py.wq).flatten
def formOk(d:Dt):Bool:=Py.wf 0 d&&(match Py.wq d with|40::_=>true|_=>false)
theorem forms_of:∀ds:List Dt,(∀d,d∈ds->formOk d=true/\∀v,v∈Py.nums d->Py.inR v)->∃fs,Py.Forms (textOf ds) fs/\fs.map (·.1)=ds
 | [],_=>⟨[],.nil,rfl⟩
 |d::r,h=>by
  obtain⟨fs,hf,hm⟩:=forms_of r (fun x hx=>h x (List.mem_cons_of_mem _ hx));obtain⟨h1,h2⟩:=h d (List.mem_cons_self ..);simp only[formOk,Bool.and_eq_true]at h1;have hr:=Py.wq_reads d 0 h1.1 h2;refine⟨_,.cons hr.1 hr.2 ?_ hf,by simp[hm]⟩;intro c l e;cases r with
  |nil=>simp at e
  |cons d2 r2=>
   change textOf (d2::r2)=c::l at e;have h3:=(h d2 (by simp)).1;simp only[formOk,Bool.and_eq_true]at h3;have e2:textOf (d2::r2)=Py.wq d2++textOf r2:=by simp[textOf]
   rw[e2]at e;cases hw:Py.wq d2 with
   |nil=>rw[hw]at h3;simp at h3
   |cons c2 l2=>
    rw[hw]at h3 e;simp only[List.cons_append,List.cons.injEq]at e;rw[<-e.1];split at h3
    ·rename_i hx;cases hx;decide
    ·simp at h3
def Gives(t v:Bs):Prop:=v.length<=1200/\∃r,Does t r/\EndsW r v
theorem gives_trees(ds:List Dt)(v:Bs)(hd:∀d,d∈ds->formOk d=true/\∀v,v∈Py.nums d->Py.inR v)(hl:(textOf ds).length<=1200)(hv:v.length<=1200)(hn:∀d,d∈ds->noSyn d=true)
  (hE:∀ps:List Nat,ps.length=ds.length->EndsW (deal (plenty (textOf ds)) (ds.zip ps) Option.none {} m0) v):Gives (textOf ds) v:=by
 obtain⟨fs,hf,hm⟩:=forms_of ds hd;have e:fs.map (fun f=>(f.1,(textOf ds).length-f.2))=ds.zip (fs.map (fun f=>(textOf ds).length-f.2)):=by
  generalize (textOf ds).length=k;rw[<-hm];clear hf hm;induction fs with
  |nil=>rfl
  |cons a r ih=>simp[ih]
 have h:=hE (fs.map (fun f=>(textOf ds).length-f.2)) (by rw[<-hm];simp);rw[<-e]at h;exact⟨hv,_,⟨fs,hf,hl,fun f hf2=>hn f.1 (by rw[<-hm];exact List.mem_map_of_mem hf2),rfl⟩,h⟩
end Sc
end
end Go.Proofs.YtldaocpojcfljaaGreatDoor
