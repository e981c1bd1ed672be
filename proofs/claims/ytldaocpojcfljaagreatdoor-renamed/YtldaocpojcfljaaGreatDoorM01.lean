import Derived.Test.YtldaocpojcfljaaGreatDoorProg
import Derived.Below
import Derived.Laws.Rows
import Derived.Lib.ParseIntBTie
import Derived.Lib.ItoaNum
import Derived.Lib.ItoaLen
import Derived.KernelRfl
import Derived.Shelf.Small.Strs
import Derived.Shelf.Strings.Prefix
import Derived.Shelf.Strconv.Itoa4
import Derived.Shelf.Strconv.ErrVarParseInt
import Derived.WalkKit
import Derived.WalkSpells
import Derived.WalkLawsBesides
import Derived.Deep.QuietTactic
import Derived.BigQuiet
set_option maxRecDepth 100000
set_option maxHeartbeats 4000000
namespace Go.Proofs.YtldaocpojcfljaaGreatDoor
section
abbrev Wd:=World
abbrev BA:=ByteArray
abbrev Vu:=Value
abbrev En:=Ending
abbrev OA:=Option Addr
open Go.RowKit
theorem hZ {p : Prop} (h : p) : Hid p := h
abbrev eE:=@Array.getElem?_eq_some_iff
abbrev eR:=@Nat.le_refl
abbrev eH:=@Below.heap_alloc
abbrev eN:=@heap_alloc_new
abbrev eG:=@List.getElem?_eq_getElem
abbrev eT:=@Nat.le_trans
abbrev eL:=@List.getElem?_eq_some_iff
abbrev eW:=@Nat.lt_of_lt_of_le
abbrev eA:=@List.getElem?_append_left
abbrev eB:=@List.getElem?_append_right
end
open Tryz hiding parts
section
namespace Px
open Go
def digB(c:UInt8):Bool:=decide (48<=c.toNat/\c.toNat<=57)
def wordB(c:UInt8):Bool:=decide ((97<=c.toNat/\c.toNat<=122)\/(48<=c.toNat/\c.toNat<=57)\/c.toNat=43\/c.toNat=45\/c.toNat=42\/c.toNat=47\/c.toNat=60\/c.toNat=62\/c.toNat=61\/c.toNat=63\/c.toNat=33\/c.toNat=95\/c.toNat=46\/c.toNat=58)
def endB(c:UInt8):Bool:=decide (c.toNat=32\/c.toNat=10\/c.toNat=40\/c.toNat=41\/c.toNat=39\/c.toNat=34\/c.toNat=59)
def strB(c:UInt8):Bool:=decide (32<=c.toNat/\c.toNat<=126/\c.toNat≠34/\c.toNat≠92)
def skip:Bool->List UInt8->List UInt8
 |_,[]=>[]
 |true,c::r=>if c.toNat=10 then skip false r else skip true r
 |false,c::r=>if c.toNat=32\/c.toNat=10 then skip false r else if c.toNat=59 then skip true r else c::r
def unsign(w:List UInt8):List UInt8:=
 match w with
 | []=>[]
 |c::r=>if c.toNat=45 then r else c::r
def numB(w:List UInt8):Bool:=(unsign w).all digB&&!(unsign w).isEmpty
def join:List (List UInt8)->List UInt8
 | []=>[]
 |t::r=>t++(match r with| []=>[]|_::_=>32::join r)
def paren(ts:List (List UInt8)):List UInt8:=40::(join ts++[41])
def quoteT:List UInt8:=[113,117,111,116,101]
end Px
end
section
namespace Px
open Go
theorem skip_idem:∀(l:List UInt8) (b:Bool),skip false (skip b l)=skip b l
 | [],b=>by cases b <;> rfl
 |c::r,true=>by
  by_cases h:c.toNat=10
  ·simp only[skip,if_pos h];exact skip_idem r false
  ·simp only[skip,if_neg h];exact skip_idem r true
 |c::r,false=>by
  by_cases h:c.toNat=32\/c.toNat=10
  ·simp only[skip,if_pos h];exact skip_idem r false
  ·by_cases a:c.toNat=59
   ·simp only[skip,if_neg h,if_pos a];exact skip_idem r true
   ·simp only[skip,if_neg h,if_neg a]
theorem skip_suf:∀(l:List UInt8) (b:Bool),skip b l<:+l
 | [],b=>by cases b <;> exact List.suffix_refl _
 |c::r,true=>by
  by_cases h:c.toNat=10
  ·simp only[skip,if_pos h];exact(skip_suf r false).trans (List.suffix_cons c r)
  ·simp only[skip,if_neg h];exact(skip_suf r true).trans (List.suffix_cons c r)
 |c::r,false=>by
  by_cases h:c.toNat=32\/c.toNat=10
  ·simp only[skip,if_pos h];exact(skip_suf r false).trans (List.suffix_cons c r)
  ·by_cases a:c.toNat=59
   ·simp only[skip,if_neg h,if_pos a];exact(skip_suf r true).trans (List.suffix_cons c r)
   ·simp only[skip,if_neg h,if_neg a];exact List.suffix_refl _
theorem qcp(P:UInt8->Bool)(l:List UInt8):l.dropWhile P<:+l:=List.dropWhile_suffix P
end Px
end
section
inductive Dt where
 |num (v:Int)
 |bool (b:Bool)
 |str (t:List UInt8)
 |sym (t:List UInt8) (m:Int)
 |list (l:List Dt)
mutual
def Dt.wr:Dt->List UInt8
 | .num v=>Lib.itoa v
 | .bool b=>if b then [35,116]else [35,102]
 | .str t=>34::(t++[34])
 | .sym t _=>t
 | .list l=>Px.paren (Dt.wrs l)
def Dt.wrs:List Dt->List (List UInt8)
 | []=>[]
 |d::r=>d.wr::Dt.wrs r
end
namespace Py
open Go
open Px (digB wordB endB strB skip unsign numB quoteT skip_idem skip_suf qcp)
abbrev R:=Sum (Nat×Nat) (List Dt×List UInt8)
def closed(t:Dt)(r:List UInt8):R:=
 match r with
 | []=>.inr ([t],[])
 |c::r'=>if endB c then .inr ([t],c::r')else .inl (2,r'.length+1)
def wordOf(w r:List UInt8):R:=
 if numB w then
  match Lib.parseIntB 64 w with
  | .ok v=>closed (.num v) r
  |_=>.inl (4,w.length+r.length)
 else if 24<w.length then .inl (4,w.length+r.length)
 else closed (.sym w 0) r
def word(l:List UInt8):R:=wordOf (l.takeWhile wordB) (l.dropWhile wordB)
def str(l:List UInt8):R:=
 match l.dropWhile strB with
 | []=>.inl (3,0)
 |c::r=>if c.toNat=34 then .inr ([.str (l.takeWhile strB)],r)else .inl (2,r.length+1)
def truth(l:List UInt8):R:=
 match l with
 | []=>.inl (2,1)
 |c::r=>if c.toNat=116 then closed (.bool true) r else if c.toNat=102 then closed (.bool false) r else .inl (2,r.length+2)
def rd:Nat->Bool->Nat->List UInt8->R
 |0,_,_,_=>.inl (0,0)
 |f+1,true,d,l=>
  match skip false l with
  | []=>.inl (3,0)
  |c::r=>
   if c.toNat=41 then .inr ([],r)
   else match rd f false d (c::r)with
    | .inl e=>.inl e
    | .inr (x,r1)=>match rd f true d r1 with
     | .inl e=>.inl e
     | .inr (xs,r2)=>.inr (x++xs,r2)
 |f+1,false,d,l=>
  match skip false l with
  | []=>.inl (3,0)
  |c::r=>
   if c.toNat=40 then
    if d=30 then .inl (4,r.length+1)
    else match rd f true (d+1) r with
     | .inl e=>.inl e
     | .inr (xs,r1)=>.inr ([.list xs],r1)
   else if c.toNat=39 then
    if d=30 then .inl (4,r.length+1)
    else match rd f false (d+1) r with
     | .inl e=>.inl e
     | .inr (xs,r1)=>.inr ([.list (.sym quoteT 0::xs)],r1)
   else if c.toNat=34 then str r
   else if c.toNat=35 then truth r
   else if wordB c then word (c::r)
   else .inl (2,r.length+1)
def top:Nat->List UInt8->R
 |0,_=>.inl (0,0)
 |f+1,l=>
  match skip false l with
  | []=>.inr ([],[])
  |c::r=>match rd f false 0 (c::r)with
   | .inl e=>.inl e
   | .inr (x,r1)=>match top f r1 with
    | .inl e=>.inl e
    | .inr (xs,r2)=>.inr (x++xs,r2)
def qf1(l:List UInt8)(b:Bool)(r:R):Prop:=∀xs rr,r=.inr (xs,rr)->rr<:+l/\rr.length<l.length/\(b=false->∃t,xs=[t])
theorem qcz(l:List UInt8)(t:Dt)(r:List UInt8)(b:Bool)(h:r<:+l)(f:r.length<l.length):qf1 l b (closed t r):=by
 intro xs g a;unfold closed at a;cases r with
 |nil=>simp at a;obtain⟨d,e⟩:=a;subst d;subst e;exact⟨h,f,λ_=>⟨t,rfl⟩⟩
 |cons c i=>
  simp only at a;split at a
  ·simp at a;obtain⟨d,e⟩:=a;subst d;subst e;exact⟨h,f,λ_=>⟨t,rfl⟩⟩
  ·simp at a
theorem qo9(c:UInt8)(r:List UInt8)(h:wordB c=true):qf1 (c::r) false (word (c::r)):=by
 have b:(c::r).dropWhile wordB<:+(c::r):=qcp _ _;have d:((c::r).dropWhile wordB).length<(c::r).length:=by
  have e:(c::r).dropWhile wordB=r.dropWhile wordB:=by simp[List.dropWhile,h]
  rw[e];have:=(qcp wordB r).length_le;simp;omega
 unfold word wordOf;split
 ·split
  ·exact qcz _ _ _ _ b d
  ·intro xs f a;simp at a
 ·split
  ·intro xs f a;simp at a
  ·exact qcz _ _ _ _ b d
theorem qrm(c:UInt8)(r:List UInt8):qf1 (c::r) false (str r):=by
 intro xs h a;have b:r.dropWhile strB<:+r:=qcp _ _;unfold str at a;cases hd:r.dropWhile strB with
 |nil=>rw[hd]at a;simp at a
 |cons c' d=>
  rw[hd]at a b;simp only at a;split at a
  ·simp at a;obtain⟨f,g⟩:=a;subst f;subst g;have e:d<:+r:=(List.suffix_cons c' d).trans b;exact⟨e.trans (List.suffix_cons c r),by have:=e.length_le;simp;omega,λ_=>⟨_,rfl⟩⟩
  ·simp at a
theorem ql4(c:UInt8)(r:List UInt8):qf1 (c::r) false (truth r):=by
 cases r with
 |nil=>intro xs e a;simp[truth]at a
 |cons c' b=>
  have d:b<:+(c::c'::b):=(List.suffix_cons c' b).trans (List.suffix_cons c _);unfold truth;simp only;split
  ·exact qcz _ _ _ _ d (by simp;omega)
  ·split
   ·exact qcz _ _ _ _ d (by simp;omega)
   ·intro xs e a;simp at a
theorem rd_short:∀(f:Nat) (b:Bool) (d:Nat) (l:List UInt8),qf1 l b (rd f b d l)
 |0,b,d,l=>by intro xs m a;simp[rd]at a
 |f+1,true,d,l=>by
  intro xs m a;have i:=skip_suf l false;unfold rd at a;cases hk:skip false l with
  |nil=>rw[hk]at a;simp at a
  |cons c r=>
   rw[hk]at a i;simp only at a;split at a
   ·simp at a;obtain⟨j,k⟩:=a;subst j;subst k;have q:=(List.suffix_cons c r).trans i;exact⟨q,by have:=i.length_le;simp at this;omega,λh=>by cases h⟩
   ·cases h1:rd f false d (c::r)with
    |inl e=>rw[h1]at a;simp at a
    |inr p=>
     obtain⟨x,o⟩:=p;rw[h1]at a;simp only at a;cases h2:rd f true d o with
     |inl e=>rw[h2]at a;simp at a
     |inr s=>
      obtain⟨u,y⟩:=s;rw[h2]at a;simp at a;obtain⟨j,k⟩:=a;subst j;subst k;have n:=rd_short f false d (c::r) _ _ h1;have v:=rd_short f true d o _ _ h2;exact⟨(v.1.trans n.1).trans i,by have:=i.length_le;omega,λh=>by cases h⟩
 |f+1,false,d,l=>by
  intro xs m a;have i:=skip_suf l false;unfold rd at a;cases hk:skip false l with
  |nil=>rw[hk]at a;simp at a
  |cons c r=>
   rw[hk]at a i;have up:qf1 (c::r) false (.inr (xs,m))->m<:+l/\m.length<l.length/\(false=false->∃t,xs=[t]):=by
    intro h;have g:=h xs m rfl;exact⟨g.1.trans i,by have:=i.length_le;omega,g.2.2⟩
   simp only at a;split at a
   ·split at a
    ·simp at a
    ·cases h1:rd f true (d+1) r with
     |inl e=>rw[h1]at a;simp at a
     |inr p=>
      obtain⟨x,o⟩:=p;rw[h1]at a;simp at a;obtain⟨j,k⟩:=a;subst j;subst k;have n:=rd_short f true (d+1) r _ _ h1;exact⟨(n.1.trans (List.suffix_cons c r)).trans i,by have:=i.length_le;simp at this;omega,λ_=>⟨_,rfl⟩⟩
   ·split at a
    ·split at a
     ·simp at a
     ·cases h1:rd f false (d+1) r with
      |inl e=>rw[h1]at a;simp at a
      |inr p=>
       obtain⟨x,o⟩:=p;rw[h1]at a;simp at a;obtain⟨j,k⟩:=a;subst j;subst k;have n:=rd_short f false (d+1) r _ _ h1;exact⟨(n.1.trans (List.suffix_cons c r)).trans i,by have:=i.length_le;simp at this;omega,λ_=>⟨_,rfl⟩⟩
    ·split at a
     ·exact up (a▸qrm c r)
     ·split at a
      ·exact up (a▸ql4 c r)
      ·split at a
       ·rename_i w;exact up (a▸qo9 c r w)
       ·simp at a
theorem rd_skip(f:Nat)(b:Bool)(d:Nat)(l:List UInt8):rd f b d (skip false l)=rd f b d l:=by
 cases f with
 |zero=>cases b <;> rfl
 |succ f=>cases b <;> (unfold rd;rw[skip_idem])
def pre(ts:List Dt)(r:R):R:=match r with
 | .inl e=>.inl e
 | .inr (xs,rr)=>.inr (ts++xs,rr)
theorem pre_nil(r:R):pre [] r=r:=by rcases r with e|⟨xs,a⟩ <;> rfl
theorem pre_pre(a b:List Dt)(r:R):pre a (pre b r)=pre (a++b) r:=by
 rcases r with e|⟨xs,c⟩
 ·rfl
 ·simp[pre]
theorem rd_true_close(f d:Nat)(c:UInt8)(r:List UInt8)(a:c.toNat=41):rd (f+1) true d (c::r)=.inr ([],r):=by
 have h:skip false (c::r)=c::r:=by simp only[skip];rw[if_neg (by omega),if_neg (by omega)]
 unfold rd;rw[h];simp[a]
theorem rd_true_bad(f d:Nat)(l:List UInt8)(a:skip false l=l)(b:∀c r,l=c::r->c.toNat≠41)(e:Nat×Nat)(h:rd f false d l=.inl e)(i:1<=f):rd (f+1) true d l=.inl e:=by
 unfold rd;rw[a];cases l with
 |nil=>
  obtain⟨g,rfl⟩:∃g,f=g+1:=⟨f-1,by omega⟩;unfold rd at h;rw[a]at h;simp only at h|-;rw[h]
 |cons c r=>simp only;rw[if_neg (b c r rfl),h]
theorem rd_true_more(f d:Nat)(l:List UInt8)(b:skip false l=l)(g:∀c r,l=c::r->c.toNat≠41)(x:List Dt)(a:List UInt8)(h:rd f false d l=.inr (x,a)):rd (f+1) true d l=pre x (rd f true d (skip false a)):=by
 rw[rd_skip];cases l with
 |nil=>
  cases f with
  |zero=>simp[rd]at h
  |succ f=>unfold rd at h;simp[skip]at h
 |cons c r=>
  rw[rd,b];simp only;rw[if_neg (g c r rfl),h];simp only;rcases rd f true d a with e|⟨xs,i⟩ <;> rfl
def topP:Nat->List UInt8->Sum (Nat×Nat) (List (Dt×Nat)×List UInt8)
 |0,_=>.inl (0,0)
 |f+1,l=>
  match skip false l with
  | []=>.inr ([],[])
  |c::r=>match rd f false 0 (c::r)with
   | .inl e=>.inl e
   | .inr (x,r1)=>match topP f r1 with
    | .inl e=>.inl e
    | .inr (xs,r2)=>.inr (x.map (λt=>(t,r.length+1))++xs,r2)
def preP(ts:List (Dt×Nat))(r:Sum (Nat×Nat) (List (Dt×Nat)×List UInt8)):Sum (Nat×Nat) (List (Dt×Nat)×List UInt8):=match r with
 | .inl e=>.inl e
 | .inr (xs,rr)=>.inr (ts++xs,rr)
theorem preP_nil(r:Sum (Nat×Nat) (List (Dt×Nat)×List UInt8)):preP [] r=r:=by rcases r with e|⟨xs,a⟩ <;> rfl
theorem preP_pre(a b:List (Dt×Nat))(r:Sum (Nat×Nat) (List (Dt×Nat)×List UInt8)):preP a (preP b r)=preP (a++b) r:=by
 rcases r with e|⟨xs,c⟩
 ·rfl
 ·simp[preP]
theorem topP_top:∀(f:Nat) (l:List UInt8),top f l=(match topP f l with| .inl e=>.inl e| .inr (xs,rr)=>.inr (xs.map (·.1),rr))
 |0,_=>rfl
 |f+1,l=>by
  rw[top,topP];cases skip false l with
  |nil=>rfl
  |cons c r=>
   simp only;rcases rd f false 0 (c::r)with e|⟨x,a⟩
   ·rfl
   ·simp only;rw[topP_top f a];rcases topP f a with e|⟨x2,b⟩
    ·rfl
    ·simp[Function.comp_def]
end Py
end
section
namespace Px
open Go
end Px
end
section
namespace Px
open Go
theorem qhr(n:Nat)(h:n<10):(UInt8.ofNat (48+n)).toNat=48+n:=by
 rw[UInt8.toNat_ofNat'];omega
theorem qfu(u:Nat):(Lib.decDigits u).all digB=true/\Lib.decDigits u≠[]:=by
 induction u using Nat.strongRecOn with
 |ind u a=>
  rw[Lib.decDigits];by_cases h:u<10
  ·rw[dif_pos h];simp[digB];omega
  ·rw[dif_neg h];have b:=a (u / 10) (by omega);rw[List.all_append,b.1];simp[digB];omega
theorem qlv(u:Nat)(b:u<=2 ^ 64-1):∀rest,Lib.parseUintM (2 ^ 64-1) 0 (Lib.decDigits u++rest)=Lib.parseUintM (2 ^ 64-1) u rest:=by
 induction u using Nat.strongRecOn with
 |ind u a=>
  intro rest;rw[Lib.decDigits];by_cases h:u<10
  ·rw[dif_pos h];have e:=qhr u h;rw[List.singleton_append,Lib.parseUintM,if_pos (by omega),if_neg (by omega),if_neg (by omega),e];congr 1;omega
  ·rw[dif_neg h];have e:=qhr (u % 10) (by omega);rw[List.append_assoc,a (u / 10) (by omega) (by omega),List.singleton_append,Lib.parseUintM,if_pos (by omega),if_neg (by omega),if_neg (by omega),e];congr 1;omega
theorem qo1(u:Nat):∃c r,Lib.decDigits u=c::r/\digB c=true:=by
 have h:=qfu u;cases hd:Lib.decDigits u with
 |nil=>exact absurd hd h.2
 |cons c r=>rw[hd]at h;exact⟨c,r,rfl,by simpa using (show digB c=true/\_ from by simpa using h.1).1⟩
theorem qim(v:Int)(g:-9223372036854775808<=v)(i:v<=9223372036854775807):Lib.parseIntB 64 (Lib.itoa v)=.ok v:=by
 unfold Lib.itoa;by_cases b:v<0
 ·rw[if_pos b];have a:=qlv v.natAbs (by omega) [];rw[List.append_nil]at a;have hne:=(qfu v.natAbs).2;unfold Lib.parseIntB;simp only[show(45:UInt8).toNat=45 from rfl,or_true,if_true];unfold Lib.parseUintB;rw[if_neg hne,a,Lib.parseUintM];simp only;rw[if_neg (by simp),if_neg (by simp;omega)];congr 1;omega
 ·rw[if_neg b];have a:=qlv v.toNat (by omega) [];rw[List.append_nil]at a;obtain⟨c,r,d,e⟩:=qo1 v.toNat;rw[d]at a|-;have f:48<=c.toNat/\c.toNat<=57:=by simpa[digB]using e
  unfold Lib.parseIntB;simp only;rw[if_neg (by omega)];unfold Lib.parseUintB;rw[if_neg (by simp),a,Lib.parseUintM];simp only;rw[if_neg (by intro h;have:=h.2;omega),if_neg (by intro h;omega),if_neg (by omega)];congr 1;omega
theorem qoq(v:Int):numB (Lib.itoa v)=true:=by
 unfold Lib.itoa numB;by_cases a:v<0
 ·rw[if_pos a];have h:=qfu v.natAbs;simp[unsign,h.1,h.2]
 ·rw[if_neg a];have h:=qfu v.toNat;obtain⟨c,r,b,d⟩:=qo1 v.toNat;have e:48<=c.toNat/\c.toNat<=57:=by simpa[digB]using d
  rw[b]at h|-;have f:unsign (c::r)=c::r:=by unfold unsign;simp only;rw[if_neg (by omega)]
  rw[f,h.1];rfl
theorem qqu(c:UInt8)(h:digB c=true):wordB c=true:=by
 have:48<=c.toNat/\c.toNat<=57:=by simpa[digB]using h
 unfold wordB;rw[decide_eq_true_eq];right;left;exact this
theorem qlh(v:Int):(Lib.itoa v).all wordB=true/\Lib.itoa v≠[]:=by
 have a:∀l:List UInt8,l.all digB=true->l.all wordB=true:=by
  intro l h;rw[List.all_eq_true]at h|-;exact λx c=>qqu x (h x c)
 unfold Lib.itoa;by_cases b:v<0
 ·rw[if_pos b];have h:=qfu v.natAbs;rw[List.all_cons,a _ h.1];exact⟨by decide,by simp⟩
 ·rw[if_neg b];have h:=qfu v.toNat;exact⟨a _ h.1,h.2⟩
def qxn(rest:List UInt8):Prop:=∀c r,rest=c::r->endB c=true
def qc1(t:List UInt8):Prop:=∃c r,t=c::r/\c.toNat≠32/\c.toNat≠10/\c.toNat≠59/\c.toNat≠41
theorem qbf(c:UInt8)(r:List UInt8)(b:c.toNat≠32)(d:c.toNat≠10)(a:c.toNat≠59):skip false (c::r)=c::r:=by
 rw[skip,if_neg (by omega),if_neg a]
theorem qgr(c:UInt8)(h:wordB c=true):c.toNat≠32/\c.toNat≠10/\c.toNat≠59/\c.toNat≠41/\c.toNat≠40/\c.toNat≠39/\c.toNat≠34/\c.toNat≠35:=by
 unfold wordB at h;rw[decide_eq_true_eq]at h;omega
theorem qqs(c:UInt8)(h:endB c=true):wordB c=false:=by
 unfold endB at h;rw[decide_eq_true_eq]at h;unfold wordB;rw[decide_eq_false_iff_not];omega
theorem qki(w rest:List UInt8)(b:w.all wordB=true)(d:qxn rest):(w++rest).takeWhile wordB=w/\(w++rest).dropWhile wordB=rest:=by
 induction w with
 |nil=>
  cases rest with
  |nil=>simp
  |cons c r=>have:=qqs c (d c r rfl);simp[this]
 |cons c r e=>
  have a:wordB c=true/\r.all wordB=true:=by simpa using b
  have:=e a.2;simp[a.1,this.1,this.2]
theorem qi3(u rest:List UInt8)(b:u.all strB=true):(u++34::rest).takeWhile strB=u/\(u++34::rest).dropWhile strB=34::rest:=by
 induction u with
 |nil=>simp[show strB 34=false from by decide]
 |cons c r d=>
  have a:strB c=true/\r.all strB=true:=by simpa using b
  have:=d a.2;simp[a.1,this.1,this.2]
theorem qe6(c:UInt8)(r:List UInt8)(h:endB c=true):qxn (c::r):=by
 intro c' a e;cases e;exact h
end Px
end
section
namespace Sc
open Go
abbrev Bs:=List UInt8
inductive Pm where
 |add
 |sub
 |mul
 |quot
 |rem
 |eql
 |lss
 |cons
 |car
 |cdr
 |nullQ
 |pairQ
 |intQ
 |symQ
 |strQ
 |boolQ
 |procQ
 |sealQ
 |not
 |eqQ
 |equalQ
 |list
 |length
 |append
 |strAppend
 |strLength
 |numStr
 |symStr
 |apply
 |callcc
 |wind
 |error
 |seal
 |write
 |readLine
 |tick
 |roll
 |unseal
def Pm.name:Pm->Bs
 | .add=>[43]
 | .sub=>[45]
 | .mul=>[42]
 | .quot=>[113,117,111,116,105,101,110,116]
 | .rem=>[114,101,109,97,105,110,100,101,114]
 | .eql=>[61]
 | .lss=>[60]
 | .cons=>[99,111,110,115]
 | .car=>[99,97,114]
 | .cdr=>[99,100,114]
 | .nullQ=>[110,117,108,108,63]
 | .pairQ=>[112,97,105,114,63]
 | .intQ=>[105,110,116,101,103,101,114,63]
 | .symQ=>[115,121,109,98,111,108,63]
 | .strQ=>[115,116,114,105,110,103,63]
 | .boolQ=>[98,111,111,108,101,97,110,63]
 | .procQ=>[112,114,111,99,101,100,117,114,101,63]
 | .sealQ=>[115,101,97,108,63]
 | .not=>[110,111,116]
 | .eqQ=>[101,113,63]
 | .equalQ=>[101,113,117,97,108,63]
 | .list=>[108,105,115,116]
 | .length=>[108,101,110,103,116,104]
 | .append=>[97,112,112,101,110,100]
 | .strAppend=>[115,116,114,105,110,103,45,97,112,112,101,110,100]
 | .strLength=>[115,116,114,105,110,103,45,108,101,110,103,116,104]
 | .numStr=>[110,117,109,98,101,114,45,62,115,116,114,105,110,103]
 | .symStr=>[115,121,109,98,111,108,45,62,115,116,114,105,110,103]
 | .apply=>[97,112,112,108,121]
 | .callcc=>[99,97,108,108,47,99,99]
 | .wind=>[100,121,110,97,109,105,99,45,119,105,110,100]
 | .error=>[101,114,114,111,114]
 | .seal=>[115,101,97,108]
 | .write=>[119,114,105,116,101]
 | .readLine=>[114,101,97,100,45,108,105,110,101]
 | .tick=>[116,105,99,107]
 | .roll=>[114,111,108,108]
 | .unseal=>[117,110,115,101,97,108]
inductive Ex where
 |quo (d:Dt)
 |loc (up n:Nat)
 |glo (s:Bs)
 |ite (c t:Ex) (e:Option Ex)
 |setL (up n:Nat) (x:Ex)
 |setG (s:Bs) (x:Ex)
 |defG (s:Bs) (x:Ex)
 |lam (n:Nat) (rest:Bool) (body:List Ex)
 |app (f:Ex) (l:List Ex)
 |seq (x:Ex) (l:List Ex)
 |skip
inductive Tg where
 |loc (up n:Nat)
 |glo (s:Bs)
 |def' (s:Bs)
mutual
inductive Vl where
 |num (n:Int)
 |bool (b:Bool)
 |str (s:Bs)
 |sym (s:Bs)
 |nil
 |none
 |pair (id:Nat) (a b:Vl)
 |lam (id n:Nat) (rest:Bool) (body:List Ex) (env:Option Nat)
 |prim (p:Pm)
 |cont (id:Nat) (k:List Fr) (w:List Wn)
 |seal (id:Nat) (v:Vl)
 |sealD (id:Nat) (d:Dt)
 |grant (n:Nat)
inductive Fr where
 |ite (t:Ex) (e:Option Ex) (env:Option Nat)
 |set (t:Tg) (env:Option Nat)
 |body (l:List Ex) (env:Option Nat)
 |app (vs:List Vl) (l:List Ex) (env:Option Nat)
 |wind1 (a b c:Vl)
 |wind2 (c:Vl) (w:List Wn)
 |wind3 (v:Vl)
 |back (to:List Wn) (v:Vl) (k:List Fr)
 |into (now to:List Wn) (v:Vl) (k:List Fr)
inductive Wn where
 |mk (id:Nat) (a c:Vl)
end
def Wn.id:Wn->Nat| .mk i _ _=>i
def Wn.a:Wn->Vl| .mk _ a _=>a
def Wn.c:Wn->Vl| .mk _ _ c=>c
structure Ev where
 kind:Nat
 num:Int
 text:Bs
structure Sub where
 text:Bs
 secrets:List Bs
 lines:List Bs
 ticks:List Int
 draws:List Int
 grants:Int
 fuel:Int
 rewrites:Int
 quota:Int
 room:Int
structure Mc where
 steps:Nat:=0
 cells:Nat:=0
 out:Bs:=[]
 evs:List Ev:=[]
 glob:List (Bs×Vl):=[]
 envs:List (List Vl×Option Nat):=[]
 ids:Nat:=0
 wnd:List Wn:=[]
 lines:Nat:=0
 ticks:Nat:=0
 draws:Nat:=0
 raised:Bs:=[]
inductive Ct where
 |ev (x:Ex) (env:Option Nat) (k:List Fr)
 |ret (v:Vl) (k:List Fr)
 |ap (f:Vl) (l:List Vl) (k:List Fr)
 |done (v:Vl)
 |stop (verdict:Nat)
def step(S:Sub)(m:Mc):Except Nat Unit×Mc:=if(m.steps:Int)<S.fuel then(.ok (),{m with steps:=m.steps+1})else(.error 10,m)
def cell(S:Sub)(m:Mc):Except Nat Unit×Mc:=if(m.cells:Int)<S.quota then(.ok (),{m with cells:=m.cells+1})else(.error 11,m)
def qgb(S:Sub):Nat->Mc->Except Nat Unit×Mc
 |0,m=>(.ok (),m)
 |n+1,m=>match cell S m with
  |(.ok _,m)=>qgb S n m
  |(.error e,m)=>(.error e,m)
def qeh(m:Mc)(l:List Vl)(rest:Vl):Vl×Mc:=l.foldr (λv (r:Vl×Mc)=>(.pair r.2.ids v r.1,{r.2 with ids:=r.2.ids+1})) (rest,m)
mutual
def qaf:Dt->Nat
 | .list l=>qad l
 |_=>0
def qad:List Dt->Nat
 | []=>0
 |d::r=>1+qaf d+qad r
end
mutual
def ql1(m:Mc):Dt->Vl×Mc
 | .num v=>(.num v,m)
 | .bool b=>(.bool b,m)
 | .str t=>(.str t,m)
 | .sym t _=>(.sym t,m)
 | .list l=>let (vs,m):=qee m l;qeh m vs .nil
def qee(m:Mc):List Dt->List Vl×Mc
 | []=>([],m)
 |d::r=>let (v,m):=ql1 m d;let (vs,m):=qee m r;(v::vs,m)
end
def atom:Vl->Bs
 | .num n=>Lib.itoa n
 | .bool b=>if b then [35,116]else [35,102]
 | .str s=>34::(s++[34])
 | .sym s=>s
 | .nil=>[40,41]
 | .none=>([35,60,110,111,116,104,105,110,103,62]:Bs)
 | .lam ..=>([35,60,112,114,111,99,101,100,117,114,101,62]:Bs)
 | .prim ..=>([35,60,112,114,111,99,101,100,117,114,101,62]:Bs)
 | .cont ..=>([35,60,112,114,111,99,101,100,117,114,101,62]:Bs)
 | .seal ..=>([35,60,115,101,97,108,62]:Bs)
 | .sealD ..=>([35,60,115,101,97,108,62]:Bs)
 | .grant ..=>([35,60,103,114,97,110,116,62]:Bs)
 | .pair ..=>[]
mutual
def wr:Vl->Bs
 | .pair _ a b=>40::(wr a++tl b)
 | .num n=>atom (.num n)| .bool n=>atom (.bool n)| .str n=>atom (.str n)| .sym n=>atom (.sym n)| .nil=>atom .nil| .none=>atom .none
 | .lam ..=>([35,60,112,114,111,99,101,100,117,114,101,62]:Bs)| .prim ..=>([35,60,112,114,111,99,101,100,117,114,101,62]:Bs)| .cont ..=>([35,60,112,114,111,99,101,100,117,114,101,62]:Bs)| .seal ..=>([35,60,115,101,97,108,62]:Bs)| .sealD ..=>([35,60,115,101,97,108,62]:Bs)| .grant ..=>([35,60,103,114,97,110,116,62]:Bs)
def tl:Vl->Bs
 | .pair _ a b=>32::(wr a++tl b)
 | .nil=>[41]
 | .num n=>[32,46,32]++(atom (.num n)++[41])| .bool n=>[32,46,32]++(atom (.bool n)++[41])| .str n=>[32,46,32]++(atom (.str n)++[41])| .sym n=>[32,46,32]++(atom (.sym n)++[41])| .none=>[32,46,32]++(atom .none++[41])
 | .lam ..=>[32,46,32]++(([35,60,112,114,111,99,101,100,117,114,101,62]:Bs)++[41])| .prim ..=>[32,46,32]++(([35,60,112,114,111,99,101,100,117,114,101,62]:Bs)++[41])| .cont ..=>[32,46,32]++(([35,60,112,114,111,99,101,100,117,114,101,62]:Bs)++[41])
 | .seal ..=>[32,46,32]++(([35,60,115,101,97,108,62]:Bs)++[41])| .sealD ..=>[32,46,32]++(([35,60,115,101,97,108,62]:Bs)++[41])| .grant ..=>[32,46,32]++(([35,60,103,114,97,110,116,62]:Bs)++[41])
end
def lookup(s:Bs):List (Bs×Vl)->Option Vl
 | []=>Option.none
 |(t,v)::r=>if t=s then some v else lookup s r
def put(s:Bs)(v:Vl):List (Bs×Vl)->List (Bs×Vl)
 | []=>[(s,v)]
 |(t,u)::r=>if t=s then(t,v)::r else(t,u)::put s v r
def qg5(m:Mc):Option Nat->Nat->Option Nat
 |e,0=>e
 |Option.none,_=>Option.none
 |some i,n+1=>qg5 m (m.envs[i]?.bind (·.2)) n
def qok(m:Mc)(env:Option Nat)(up n:Nat):Vl:=match qg5 m env up with
 |some i=>((m.envs[i]?.map (·.1)).bind (·[n]?)).getD .none
 |Option.none=>.none
def qn5(m:Mc)(env:Option Nat)(up n:Nat)(v:Vl):Mc:=match qg5 m env up with
 |some i=>{m with envs:=m.envs.modify i λ(l,u)=>(l.set n v,u)}
 |Option.none=>m
def eq:Vl->Vl->Bool
 | .num a,.num b=>a==b
 | .bool a,.bool b=>a==b
 | .str a,.str b=>a==b
 | .sym a,.sym b=>a==b
 | .nil,.nil=>true
 | .none,.none=>true
 | .pair i _ _,.pair j _ _=>i==j
 | .lam i _ _ _ _,.lam j _ _ _ _=>i==j
 | .prim a,.prim b=>a.name==b.name
 | .cont i _ _,.cont j _ _=>i==j
 | .seal i _,.seal j _=>i==j
 | .sealD i _,.sealD j _=>i==j
 | .grant a,.grant b=>a==b
 |_,_=>false
def equal(S:Sub):Vl->Vl->Mc->Except Nat Bool×Mc
 | .pair _ a b,.pair _ c d,m=>match step S m with
  |(.error e,m)=>(.error e,m)
  |(.ok _,m)=>match equal S a c m with
   |(.error e,m)=>(.error e,m)
   |(.ok false,m)=>(.ok false,m)
   |(.ok true,m)=>equal S b d m
 |a,b,m=>(.ok (eq a b),m)
def qta:Vl->Bool| .lam ..=>true| .prim ..=>true| .cont ..=>true|_=>false
def q2u:Vl->Bool| .seal ..=>true| .sealD ..=>true|_=>false
inductive Kd where
 |any
 |num
 |str
 |sym
 |pair
 |proc
 |grant
 |seal
def Kd.ok:Kd->Vl->Bool
 | .any,_=>true
 | .num,.num _=>true
 | .str,.str _=>true
 | .sym,.sym _=>true
 | .pair,.pair ..=>true
 | .proc,v=>qta v
 | .grant,.grant _=>true
 | .seal,v=>q2u v
 |_,_=>false
def Pm.kinds:Pm->List Kd
 | .add=>[.num,.num]| .sub=>[.num,.num]| .mul=>[.num,.num]| .quot=>[.num,.num]| .rem=>[.num,.num]| .eql=>[.num,.num]| .lss=>[.num,.num]
 | .cons=>[.any,.any]| .eqQ=>[.any,.any]| .equalQ=>[.any,.any]| .append=>[.any,.any]
 | .car=>[.pair]| .cdr=>[.pair]
 | .strAppend=>[.str,.str]| .strLength=>[.str]| .numStr=>[.num]| .symStr=>[.sym]
 | .apply=>[.proc,.any]| .callcc=>[.proc]| .wind=>[.proc,.proc,.proc]
 | .write=>[.grant,.any]| .readLine=>[.grant]| .tick=>[.grant]| .roll=>[.grant,.num]| .unseal=>[.grant,.seal]
 |_=>[.any]
def Pm.grant:Pm->Nat
 | .write=>1| .readLine=>2| .tick=>4| .roll=>8| .unseal=>16
 |_=>0
def Pm.isList:Pm->Bool
 | .list=>true
 |_=>false
def q7f(n:Int):Bool:=decide (-9223372036854775808<=n/\n<=9223372036854775807)
def num(n:Int):Except Nat Vl:=if q7f n then .ok (.num n)else .error 8
def new(S:Sub)(m:Mc)(v:Mc->Vl×Mc):Except Nat Vl×Mc:=match cell S m with
 |(.error e,m)=>(.error e,m)
 |(.ok _,m)=>let (v,m):=v m;(.ok v,m)
def qfa(S:Sub)(m:Mc):Pm->List Vl->Except Nat Vl×Mc
 | .cons,[a,b]=>new S m λm=>(.pair m.ids a b,{m with ids:=m.ids+1})
 | .eqQ,[a,b]=>(.ok (.bool (eq a b)),m)
 |_,_=>(.error 6,m)
def qcn(S:Sub)(f:Vl)(l:List Vl)(k:List Fr)(m:Mc):Ct×Mc:=match step S m with
 |(.error e,m)=>(.stop e,m)
 |(.ok _,m)=>if qta f then(.ap f l k,m)else(.stop 6,m)
def qge(l:List Ex)(env:Option Nat)(k:List Fr):Ct:=match l with
 | []=>.ret .none k
 | [x]=>.ev x env k
 |x::r=>.ev x env (.body r env::k)
def qth(p:Pm):List Vl->Bool
 | .grant g::_=>g==p.grant
 |_=>false
def Pm.idle:Pm->Bool
 | .cons=>false
 | .eqQ=>false
 |_=>true
def qnr(S:Sub)(f:Vl)(l:List Vl)(k:List Fr)(m:Mc):Ct×Mc:=match f with
 | .lam i n rest body env=>
  if rest then(.ap (.lam i n rest body env) l k,m)
  else if l.length≠n then(.stop 7,m)
  else match qgb S n m with
   |(.error e,m)=>(.stop e,m)
   |(.ok _,m)=>(qge body (some m.envs.length) k,{m with envs:=m.envs++[(l,env)]})
 | .cont i at' w=>(.ap (.cont i at' w) l k,m)
 | .prim p=>cond p.idle (.ap (.prim p) l k,m) (
  if !p.isList&&l.length !=p.kinds.length then(.stop 7,m)
  else if p.grant !=0&&!qth p l then(.stop 9,m)
  else if !p.isList&&(List.zip p.kinds l).any (λq=>!q.1.ok q.2)then(.stop 6,m)
  else match qfa S m p l with
    |(.error e,m)=>(.stop e,m)
    |(.ok v,m)=>(.ret v k,m))
 |_=>(.stop 6,m)
def next(S:Sub):Ct->Mc->Ct×Mc
 | .done v,m=>(.done v,m)
 | .stop e,m=>(.stop e,m)
 | .ap f l k,m=>qnr S f l k m
 | .ret v [],m=>(.done v,m)
 | .ret v (.ite t e env::k),m=>(match v with
   | .bool false=>(match e with|some e=>.ev e env k|Option.none=>.ret .none k)
   |_=>.ev t env k,m)
 | .ret v (.set t env::k),m=>match t with
  | .loc up n=>(.ret .none k,qn5 m env up n v)
  | .def' s=>(.ret v (.set (.def' s) env::k),m)
  | .glo s=>(.ret v (.set (.glo s) env::k),m)
 | .ret _ (.body l env::k),m=>(qge l env k,m)
 | .ret v (.app vs [] _::k),m=>match vs++[v]with
  |f::l=>qcn S f l k m
  | []=>(.stop 7,m)
 | .ret v (.app vs (x::r) env::k),m=>(.ev x env (.app (vs++[v]) r env::k),m)
 | .ret v (.wind1 a b c::k),m=>(.ret v (.wind1 a b c::k),m)
 | .ret v (.wind2 c w::k),m=>(.ret v (.wind2 c w::k),m)
 | .ret v (.wind3 u::k),m=>(.ret v (.wind3 u::k),m)
 | .ret v (.back t u j::k),m=>(.ret v (.back t u j::k),m)
 | .ret v (.into n t u j::k),m=>(.ret v (.into n t u j::k),m)
 | .ev .skip _ [],m=>(.ret .none [],m)
 | .ev x env k,m=>match step S m with
  |(.error e,m)=>(.stop e,m)
  |(.ok _,m)=>match x with
   | .quo d=>match qgb S (qaf d) m with
    |(.error e,m)=>(.stop e,m)
    |(.ok _,m)=>let (v,m):=ql1 m d;(.ret v k,m)
   | .loc up n=>(.ret (qok m env up n) k,m)
   | .glo s=>match lookup s m.glob with
    |some v=>(.ret v k,m)
    |Option.none=>(.stop 5,m)
   | .ite c t e=>(.ev c env (.ite t e env::k),m)
   | .setL up n x=>(.ev x env (.set (.loc up n) env::k),m)
   | .setG s x=>(.ev x env (.set (.glo s) env::k),m)
   | .defG s x=>(.ev x env (.set (.def' s) env::k),m)
   | .lam n rest body=>match cell S m with
    |(.error e,m)=>(.stop e,m)
    |(.ok _,m)=>(.ret (.lam m.ids n rest body env) k,{m with ids:=m.ids+1})
   | .app f l=>(.ev f env (.app [] l env::k),m)
   | .seq x l=>(qge (x::l) env k,m)
   | .skip=>(.ret .none k,m)
def go(S:Sub):Nat->Ct->Mc->Ct×Mc
 |0,c,m=>(c,m)
 |n+1,c,m=>match c with
  | .done v=>(.done v,m)
  | .stop e=>(.stop e,m)
  |c=>let (c,m):=next S c m;go S n c m
end Sc
end
section
namespace Sc
open Go
inductive Kw where
 |quote
 |ite
 |define
 |set
 |qco
 |let'
 |begin
 |synx'
def Kw.of(s:Bs):Option Kw:=
 if s=[113,117,111,116,101]then some .quote
 else if s=[105,102]then some .ite
 else if s=[100,101,102,105,110,101]then some .define
 else if s=[115,101,116,33]then some .set
 else if s=[108,97,109,98,100,97]then some .qco
 else if s=[108,101,116]then some .let'
 else if s=[98,101,103,105,110]then some .begin
 else if s=[100,101,102,105,110,101,45,115,121,110,116,97,120]then some .synx'
 else Option.none
abbrev Id:=Bs×Int
abbrev qaj:=List (List Id)
def qbl(i:Id):List Id->Option Nat
 | []=>Option.none
 |j::r=>if j=i then some 0 else(qbl i r).map (·+1)
def find(i:Id):qaj->Option (Nat×Nat)
 | []=>Option.none
 |l::r=>match qbl i l with
  |some n=>some (0,n)
  |Option.none=>(find i r).map (λp=>(p.1+1,p.2))
inductive Tr where
 |one (d:Dt)
 |row (l:List Tr)
structure Macro where
 name:Bs
 lits:List Bs
 rules:List (List Dt×Dt)
structure Xs where
 count:Nat:=0
 macros:List Macro:=[]
def Xs.mcr(x:Xs)(s:Bs):Option Macro:=x.macros.find? (λm=>m.name==s)
def Xs.drop(x:Xs)(s:Bs):Xs:={x with macros:=x.macros.filter (λm=>!(m.name==s))}
inductive Mn where
 |var
 |kw (k:Kw)
 |mac (m:Macro)
def Xs.means(x:Xs)(i:Id)(sc:qaj):Mn:=match find i sc with
 |some _=>.var
 |Option.none=>match Kw.of i.1 with
  |some k=>.kw k
  |Option.none=>match x.mcr i.1 with
   |some m=>.mac m
   |Option.none=>.var
def qbv:Bs:=[46,46,46]
def qam:Dt->Bool
 | .sym t _=>t==qbv
 |_=>false
def qed(i:Id)(deep:Nat)(had:List (Id×Nat)):Option (List (Id×Nat)):=if had.any (λb=>b.1==i)then Option.none else some (had++[(i,deep)])
mutual
def qao(lits:List Bs)(deep:Nat)(had:List (Id×Nat)):Dt->Option (List (Id×Nat))
 | .list l=>qa1 lits deep had l
 | .sym t m=>if lits.contains t||t== [95]then some had else qed (t,m) deep had
 |_=>some had
def qa1(lits:List Bs)(deep:Nat)(had:List (Id×Nat)):List Dt->Option (List (Id×Nat))
 | []=>some had
 | [p]=>if qam p then Option.none else qao lits deep had p
 |p::q::r=>
  if qam p then Option.none
  else if r.isEmpty&&qam q then qao lits (deep+1) had p
  else match qao lits deep had p with
   |Option.none=>Option.none
   |some had=>qa1 lits deep had (q::r)
end
def qlu(i:Id)(b:List (Id×Nat)):Option Nat:=(b.find? (λp=>p.1==i)).map (·.2)
mutual
def qnb(b:List (Id×Nat))(deep:Nat):Dt->Option Bool
 | .sym t m=>if t==qbv then Option.none else match qlu (t,m) b with
  |Option.none=>some false
  |some n=>if n==0 then some false else if n==deep then some true else Option.none
 | .list l=>qqq b deep l
 |_=>some false
def qqq(b:List (Id×Nat))(deep:Nat):List Dt->Option Bool
 | []=>some false
 | [t]=>qnb b deep t
 |t::q::r=>
  if qam q then
   match qnb b (deep+1) t with
   |some true=>(qqq b deep r).map (λ_=>true)
   |_=>Option.none
  else match qnb b deep t with
   |Option.none=>Option.none
   |some a=>(qqq b deep (q::r)).map (λc=>a||c)
end
def qdw(lits:List Bs):Dt->Option (List Dt×Dt)
 | .list [.list (.sym t _::p),tm]=>
  if t==qbv then Option.none
  else match qa1 lits 0 [] p with
   |Option.none=>Option.none
   |some b=>match qnb b 0 tm with
    |Option.none=>Option.none
    |some _=>some (p,tm)
 |_=>Option.none
def qa2:List Dt->Option (List Bs)
 | []=>some []
 | .sym t _::r=>if t==qbv then Option.none else(qa2 r).map (t::·)
 |_=>Option.none
def qbo(lits:List Bs):List Dt->Option (List (List Dt×Dt))
 | []=>some []
 |d::r=>match qdw lits d with
  |Option.none=>Option.none
  |some x=>(qbo lits r).map (x::·)
abbrev qdq:=List (Id×Tr)
mutual
def qaq(lits:List Bs)(sc:qaj):Dt->Dt->Option qdq
 | .list p,.list l=>qau lits sc p l
 | .list _,_=>Option.none
 | .num a,.num b=>if a==b then some []else Option.none
 | .bool a,.bool b=>if a==b then some []else Option.none
 | .str a,.str b=>if a==b then some []else Option.none
 | .sym t m,d=>
  if lits.contains t then
   match d with
   | .sym u k=>if u==t&&(find (u,k) sc).isNone then some []else Option.none
   |_=>Option.none
  else if t== [95]then some []
  else some [((t,m),.one d)]
 |_,_=>Option.none
def qau(lits:List Bs)(sc:qaj):List Dt->List Dt->Option qdq
 | [],[]=>some []
 | [],_::_=>Option.none
 | [p],[d]=>qaq lits sc p d
 | [_],_=>Option.none
 |p::q::r,l=>
  if r.isEmpty&&qam q then
   match l.mapM (λd=>qaq lits sc p d)with
   |Option.none=>Option.none
   |some rows=>some ((((qao lits 0 [] p).getD []).zipIdx).map (λb=>(b.1.1,.row (rows.map (λt=>(t[b.2]?.map (·.2)).getD (.row []))))))
  else match l with
   | []=>Option.none
   |d::l=>match qaq lits sc p d with
    |Option.none=>Option.none
    |some a=>(qau lits sc (q::r) l).map (a++·)
end
mutual
def qa5(i:Id):Dt->Bool
 | .sym t m=>(t,m)==i
 | .list l=>qbm i l
 |_=>false
def qbm(i:Id):List Dt->Bool
 | []=>false
 |d::r=>qa5 i d||qbm i r
end
def rowLen(t:Dt):qdq->Option (Option Nat)
 | []=>some Option.none
 |(i,.row l)::r=>match rowLen t r with
  |Option.none=>Option.none
  |some n=>if qa5 i t then(match n with
    |Option.none=>some (some l.length)
    |some k=>if k==l.length then some (some k)else Option.none)
   else some n
 |(_,.one _)::r=>rowLen t r
def qde(t:Dt)(k:Nat):qdq->qdq
 | []=>[]
 |(i,.row l)::r=>(if qa5 i t then(i,l[k]?.getD (.row []))else(i,.row l))::qde t k r
 |(i,.one d)::r=>(i,.one d)::qde t k r
mutual
def qgi(mark:Int)(b:qdq):Dt->Option Dt
 | .sym t m=>match b.find? (λx=>x.1==(t,m))with
  |Option.none=>some (.sym t mark)
  |some (_,.one d)=>some d
  |some (_,.row _)=>Option.none
 | .list l=>(qsb mark b l).map .list
 |d=>some d
def qsb(mark:Int)(b:qdq):List Dt->Option (List Dt)
 | []=>some []
 | [t]=>(qgi mark b t).map ([·])
 |t::q::r=>
  if qam q then
   match rowLen t b with
   |Option.none=>Option.none
   |some n=>match (List.range (n.getD 0)).mapM (λk=>qgi mark (qde t k b) t)with
    |Option.none=>Option.none
    |some a=>(qsb mark b r).map (a++·)
  else match qgi mark b t with
   |Option.none=>Option.none
   |some a=>(qsb mark b (q::r)).map (a::·)
end
mutual
def qbu:Dt->Nat
 | .list l=>1+qax l
 |_=>1
def qax:List Dt->Nat
 | []=>0
 |d::r=>qbu d+qax r
end
def use(S:Sub)(x:Xs)(mc:Macro)(args:List Dt)(sc:qaj):Except Nat (Dt×Xs)×Xs:=
 if S.rewrites<=(x.count:Int)then(.error 12,x)
 else
  let x:={x with count:=x.count+1}
  match mc.rules.findSome? (λr=>(qau mc.lits sc r.1 args).map (λb=>(b,r.2)))with
  |Option.none=>(.error 4,x)
  |some (b,t)=>match qgi x.count b t with
   |Option.none=>(.error 4,x)
   |some d=>if qbu d<=600 then(.ok (d,x),x)else(.error 4,x)
def q30:Dt->Option Id
 | .sym t m=>some (t,m)
 |_=>Option.none
def distinct:List Id->Bool
 | []=>true
 |i::r=>!r.contains i&&distinct r
def qcw:List Dt->Option (List Id)
 | []=>some []
 | .sym t m::r=>(qcw r).map ((t,m)::·)
 |_=>Option.none
def qc0:List Dt->Option (List Dt×List Dt)
 | []=>some ([],[])
 | .list [n,v]::r=>(qc0 r).map (λp=>(n::p.1,v::p.2))
 |_=>Option.none
def qc7(x:Xs)(i:Id)(sc:qaj):Option Ex:=match x.means i sc with
 | .var=>some (match find i sc with|some (u,n)=>.loc u n|Option.none=>.glo i.1)
 |_=>Option.none
mutual
def form(S:Sub):Nat->Xs->qaj->Dt->Except Nat Ex×Xs
 |0,x,_,_=>(.error 0,x)
 |f+1,x,sc,d=>match d with
  | .sym t m=>(match qc7 x (t,m) sc with|some e=>.ok e|Option.none=>.error 4,x)
  | .list []=>(.error 0,x)
  | .list (.sym t m::r)=>match x.means (t,m) sc with
   | .var=>app S f x sc (.sym t m::r)
   | .mac mc=>match use S x mc r sc with
    |(.error e,x)=>(.error e,x)
    |(.ok (d,x),_)=>form S f x sc d
   | .kw k=>qar S f x sc k r
  | .list l=>app S f x sc l
  |d=>(.ok (.quo d),x)
def app(S:Sub):Nat->Xs->qaj->List Dt->Except Nat Ex×Xs
 |0,x,_,_=>(.error 0,x)
 |f+1,x,sc,l=>match qbb S f x sc l with
  |(.ok (e::r),x)=>(.ok (.app e r),x)
  |(.ok [],x)=>(.error 4,x)
  |(.error e,x)=>(.error e,x)
def qbb(S:Sub):Nat->Xs->qaj->List Dt->Except Nat (List Ex)×Xs
 |0,x,_,_=>(.error 0,x)
 |_+1,x,_,[]=>(.ok [],x)
 |f+1,x,sc,d::r=>match form S f x sc d with
  |(.error e,x)=>(.error e,x)
  |(.ok a,x)=>match qbb S f x sc r with
   |(.error e,x)=>(.error e,x)
   |(.ok l,x)=>(.ok (a::l),x)
def qco(S:Sub):Nat->Xs->qaj->Dt->List Dt->Except Nat Ex×Xs
 |0,x,_,_,_=>(.error 0,x)
 |f+1,x,sc,p,body=>
  let ps:Option (List Id×Bool):=match p with
   | .sym t m=>some ([(t,m)],true)
   | .list l=>(qcw l).bind (λis=>if distinct is then some (is,false)else Option.none)
   |_=>Option.none
  match ps with
  |Option.none=>(.error 4,x)
  |some (is,rest)=>match qbb S f x (is::sc) body with
   |(.error e,x)=>(.error e,x)
   |(.ok b,x)=>(.ok (.lam is.length rest b),x)
def qar(S:Sub):Nat->Xs->qaj->Kw->List Dt->Except Nat Ex×Xs
 |0,x,_,_,_=>(.error 0,x)
 |f+1,x,sc,k,l=>match k,l with
  | .quote,[d]=>(.ok (.quo d),x)
  | .ite,[a,b]=>match qbb S f x sc [a,b]with
   |(.ok [a,b],x)=>(.ok (.ite a b Option.none),x)
   |(.ok _,x)=>(.error 4,x)
   |(.error e,x)=>(.error e,x)
  | .ite,[a,b,c]=>match qbb S f x sc [a,b,c]with
   |(.ok [a,b,c],x)=>(.ok (.ite a b (some c)),x)
   |(.ok _,x)=>(.error 4,x)
   |(.error e,x)=>(.error e,x)
  | .begin,b::r=>match qbb S f x sc (b::r)with
   |(.ok (b::r),x)=>(.ok (.seq b r),x)
   |(.ok [],x)=>(.error 4,x)
   |(.error e,x)=>(.error e,x)
  | .set,[v,a]=>match (q30 v).bind (λi=>qc7 x i sc)with
   |Option.none=>(.error 4,x)
   |some t=>match form S f x sc a with
    |(.error e,x)=>(.error e,x)
    |(.ok a,x)=>(match t with| .loc u n=>.ok (.setL u n a)| .glo s=>.ok (.setG s a)|_=>.error 4,x)
  | .qco,_=>(.error 0,x)
  | .define,_=>(.error 0,x)
  | .synx',_=>(.error 0,x)
  | .let',.list bs::b::r=>match qc0 bs with
   |Option.none=>(.error 4,x)
   |some (ns,vs)=>match qco S f x sc (.list ns) (b::r)with
    |(.error e,x)=>(.error e,x)
    |(.ok g,x)=>match qbb S f x sc vs with
     |(.error e,x)=>(.error e,x)
     |(.ok vs,x)=>(.ok (.app g vs),x)
  |_,_=>(.error 4,x)
end
def qbt:Bs:=[115,121,110,116,97,120,45,114,117,108,101,115]
def qcm(x:Xs)(l:List Dt):Except Nat Ex×Xs:=match l with
 | [.sym t _,.list (.sym u _::.list ls::rs)]=>
  if(Kw.of t).isSome||!(u==qbt)then(.error 4,x)
  else match qa2 ls with
   |Option.none=>(.error 4,x)
   |some lits=>match qbo lits rs with
    |Option.none=>(.error 4,x)
    |some rules=>let x:=x.drop t;(.ok .skip,{x with macros:=x.macros++[⟨t,lits,rules⟩]})
 |_=>(.error 4,x)
def top(S:Sub):Nat->Xs->Dt->Except Nat Ex×Xs
 |0,x,_=>(.error 0,x)
 |f+1,x,d=>match d with
  | .list (.sym t m::r)=>match x.means (t,m) []with
   | .kw .define=>(.error 0,x)
   | .kw .synx'=>qcm x r
   | .mac mc=>match use S x mc r []with
    |(.error e,x)=>(.error e,x)
    |(.ok (d,x),_)=>top S f x d
   |_=>form S (f+1) x [] d
  |d=>form S (f+1) x [] d
def qdx:Nat:=1000000000
def qfv(S:Sub):List (Dt×Nat)->Option Vl->Xs->Mc->(Option Nat×Nat)×Option Vl×Xs×Mc
 | [],v,x,m=>((Option.none,0),v,x,m)
 |(d,p)::r,v,x,m=>match top S qdx x d with
  |(.error e,x)=>((some e,p),v,x,m)
  |(.ok e,x)=>match go S qdx (.ev e Option.none []) m with
   |(.done v,m)=>qfv S r (some v) x m
   |(.stop e,m)=>((some e,p),v,x,m)
   |(_,m)=>((some 0,p),v,x,m)
end Sc
end
section
namespace Sc
open Go
theorem qtl(S:Sub)(n:Nat)(v:Vl)(m:Mc):go S n (.done v) m=(.done v,m):=by
 cases n <;> rfl
theorem qm9(S:Sub)(n:Nat)(e:Nat)(m:Mc):go S n (.stop e) m=(.stop e,m):=by
 cases n <;> rfl
theorem qtk(S:Sub)(n:Nat)(c:Ct)(m:Mc):go S (n+1) c m=go S n (next S c m).1 (next S c m).2:=by
 cases c with
 |done v=>rw[qtl];show _=go S n (.done v) m;rw[qtl]
 |stop e=>rw[qm9];show _=go S n (.stop e) m;rw[qm9]
 |_=>rfl
theorem qx1(S:Sub):∀(a b:Nat) (c:Ct) (m:Mc),go S (a+b) c m=go S b (go S a c m).1 (go S a c m).2
 |0,b,c,m=>by rw[Nat.zero_add];rfl
 |a+1,b,c,m=>by
  rw[show a+1+b=(a+b)+1 from by omega,qtk,qx1 S a b,qtk S a]
def ToN(S:Sub)(j:Nat)(c:Ct)(m:Mc)(c':Ct)(m':Mc):Prop:=go S j c m=(c',m')
theorem ToN.stop{S:Sub}{j n:Nat}{c:Ct}{m a:Mc}{e:Nat}(h:ToN S j c m (.stop e) a)(d:j<=n):go S n c m=(.stop e,a):=by
 obtain⟨b,rfl⟩:∃b,n=j+b:=⟨n-j,by omega⟩;rw[qx1,show go S j c m=(.stop e,a)from h];exact qm9 _ _ _ _
def qey(t:Bs):Sub:=⟨t,[],[],[],[],0,20000,500,5000,2000⟩
def mostP:List Pm:=[.add,.sub,.mul,.quot,.rem,.eql,.lss,.nullQ,.pairQ,.intQ,.symQ,.strQ,.boolQ,.procQ,.sealQ,.not,.eqQ,.equalQ,.cons,.car,.cdr,.list,.length,.append,.strAppend,.strLength,.numStr,.symStr,.apply,.callcc,.wind,.error,.seal]
def m0:Mc:={({}:Mc)with glob:=([([115,101,99,114,101,116,115],.nil),([111,117,116],.bool false),([105,110],.bool false),([99,108,111,99,107],.bool false),([100,105,99,101],.bool false),([107,101,121],.bool false)]:List (Bs×Vl)).foldl (λg p=>put p.1 p.2 g) (mostP.foldl (λg p=>put p.name (.prim p) g) [])}
end Sc
end
section
namespace Py
open Go
open Px (digB wordB endB strB skip unsign numB quoteT skip_idem skip_suf qxn qc1 qbf qgr qki qi3 qe6 qlh qoq qim)
def qf2(d:Nat)(u:List UInt8)(t:Dt):Prop:=∀F rest,2*(u.length+rest.length)+1<=F->qxn rest->rd F false d (u++rest)=.inr ([t],rest)
theorem qdn(t:Dt)(rest:List UInt8)(h:qxn rest):closed t rest=.inr ([t],rest):=by
 cases rest with
 |nil=>rfl
 |cons c r=>simp[closed,h c r rfl]
theorem qia(d:Nat)(w:List UInt8)(t:Dt)(b:w.all wordB=true)(hne:w≠[])(h:∀rest,qxn rest->wordOf w rest=.inr ([t],rest)):qf2 d w t/\qc1 w:=by
 cases w with
 |nil=>exact absurd rfl hne
 |cons c r=>
  have e:wordB c=true/\r.all wordB=true:=by simpa using b
  have a:=qgr c e.1;refine⟨?_,c,r,rfl,a.1,a.2.1,a.2.2.1,a.2.2.2.1⟩;intro F rest hF g;obtain⟨f,rfl⟩:∃f,F=f+1:=⟨F-1,by omega⟩;rw[List.cons_append,rd,qbf c _ a.1 a.2.1 a.2.2.1];simp only;rw[if_neg a.2.2.2.2.1,if_neg a.2.2.2.2.2.1,if_neg a.2.2.2.2.2.2.1,if_neg a.2.2.2.2.2.2.2,if_pos e.1];have i:=qki (c::r) rest b g;rw[<-List.cons_append];unfold word;rw[i.1,i.2];exact h rest g
theorem qk9(d:Nat)(v:Int)(b:-9223372036854775808<=v)(c:v<=9223372036854775807):qf2 d (Lib.itoa v) (.num v)/\qc1 (Lib.itoa v):=by
 have a:=qlh v;refine qia d _ _ a.1 a.2 (λrest e=>?_);unfold wordOf;rw[if_pos (qoq v),qim v b c];exact qdn _ _ e
theorem qrk(d:Nat)(w:List UInt8)(a:w.all wordB=true)(hne:w≠[])(b:numB w=false)(c:¬24<w.length):qf2 d w (.sym w 0)/\qc1 w:=by
 refine qia d _ _ a hne (λrest e=>?_);unfold wordOf;rw[if_neg (by simp[b]),if_neg c];exact qdn _ _ e
theorem qvt(F:Nat)(b:Bool)(d:Nat)(l:List UInt8):rd F b d (32::l)=rd F b d l:=by
 rw[<-rd_skip F b d (32::l),<-rd_skip F b d l];rfl
inductive Rows (d:Nat):List (List UInt8)->List Dt->Prop
 |nil:Rows d [] []
 |cons {u:List UInt8} {t:Dt} {us:List (List UInt8)} {ts:List Dt}:qf2 d u t->qc1 u->Rows d us ts->Rows d (u::us) (t::ts)
theorem qil(d:Nat):∀(a:List (List UInt8)) (j:List Dt),Rows d a j->∀F rest,2*((Px.join a).length+1+rest.length)+2<=F->rd F true d (Px.join a++41::rest)=.inr (j,rest)
 | [],_,.nil,F,rest,hF=>by
  obtain⟨f,rfl⟩:∃f,F=f+1:=⟨F-1,by omega⟩;exact rd_true_close f d 41 rest rfl
 | [u],_,.cons (t:=t) hr ⟨c,r,hc,h1,h2,h3,h4⟩ .nil,F,rest,hF=>by
  obtain⟨f,rfl⟩:∃f,F=f+1:=⟨F-1,by omega⟩;have b:Px.join [u]=u:=by simp[Px.join]
  rw[b]at hF|-;have h:skip false (u++41::rest)=u++41::rest:=by rw[hc,List.cons_append];exact qbf c _ h1 h2 h3
  have i:=hr f (41::rest) (by simp;omega) (qe6 _ _ (by decide));rw[rd_true_more f d _ h (by rw[hc];intro c' k e;simp at e;rw[<-e.1];exact h4) _ _ i,rd_skip];obtain⟨g,rfl⟩:∃g,f=g+1:=⟨f-1,by omega⟩;rw[rd_true_close g d 41 rest rfl];rfl
 |u::u2::v,_,.cons (t:=t) hr ⟨c,r,hc,h1,h2,h3,h4⟩ hrest,F,rest,hF=>by
  obtain⟨f,rfl⟩:∃f,F=f+1:=⟨F-1,by omega⟩;have b:Px.join (u::u2::v)=u++32::Px.join (u2::v):=rfl;rw[b]at hF|-;have e:(u++32::Px.join (u2::v))++41::rest=u++(32::(Px.join (u2::v)++41::rest)):=by simp
  rw[e];have h:skip false (u++(32::(Px.join (u2::v)++41::rest)))=u++(32::(Px.join (u2::v)++41::rest)):=by rw[hc,List.cons_append];exact qbf c _ h1 h2 h3
  have i:=hr f (32::(Px.join (u2::v)++41::rest)) (by simp at hF|-;omega) (qe6 _ _ (by decide));have l:1<=u.length:=by rw[hc];simp
  rw[rd_true_more f d _ h (by rw[hc];intro c' k e;simp at e;rw[<-e.1];exact h4) _ _ i,rd_skip,qvt,qil d (u2::v) _ hrest f rest (by simp at hF|-;omega)];rfl
theorem qd8(d:Nat)(c:d≠30)(a:List (List UInt8))(b:List Dt)(g:Rows (d+1) a b):qf2 d (Px.paren a) (.list b)/\qc1 (Px.paren a):=by
 refine⟨?_,40,_,rfl,by decide,by decide,by decide,by decide⟩;intro F rest hF h;obtain⟨f,rfl⟩:∃f,F=f+1:=⟨F-1,by omega⟩;have e:Px.paren a++rest=40::(Px.join a++41::rest):=by simp[Px.paren]
 have i:(Px.paren a).length=(Px.join a).length+2:=by simp[Px.paren]
 rw[e,rd,qbf 40 _ (by decide) (by decide) (by decide)];simp only;rw[if_pos (by decide),if_neg c,qil (d+1) a b g f rest (by omega)]
theorem qg0(d:Nat)(a:d≠30)(u:List UInt8)(t:Dt)(h:qf2 (d+1) u t):qf2 d (39::u) (.list [.sym quoteT 0,t])/\qc1 (39::u):=by
 refine⟨?_,39,_,rfl,by decide,by decide,by decide,by decide⟩;intro F rest hF b;obtain⟨f,rfl⟩:∃f,F=f+1:=⟨F-1,by omega⟩;rw[List.cons_append,rd,qbf 39 _ (by decide) (by decide) (by decide)];simp only;rw[if_neg (by decide),if_pos (by decide),if_neg a,h f rest (by simp at hF;omega) b]
theorem qrj(f:Nat)(u rest:List UInt8)(t:Dt)(h:qf2 0 u t)(d:qc1 u)(i:qxn rest)(o:2*(u.length+rest.length)+2<=f):
  topP f (u++rest)=preP [(t,u.length+rest.length)] (topP (f-1) rest):=by
 obtain⟨g,rfl⟩:∃g,f=g+1:=⟨f-1,by omega⟩;obtain⟨c,r,a,j,k,l,_⟩:=d;have m:skip false (u++rest)=u++rest:=by rw[a,List.cons_append];exact qbf c _ j k l
 have b:=h g rest (by omega) i;have n:(u++rest).length=u.length+rest.length:=List.length_append;rw[topP,m,<-n];rw[a,List.cons_append]at b|-;simp only;rw[b];simp only[Nat.add_sub_cancel];rcases topP g rest with e|⟨xs,p⟩
 ·rfl
 ·simp[preP]
end Py
end
section
namespace Py
open Go
open Px (digB wordB endB strB skip numB quoteT qxn qc1 qbf qi3 qe6)
theorem qgs(d:Nat)(b:Bool):qf2 d (Dt.wr (.bool b)) (.bool b)/\qc1 (Dt.wr (.bool b)):=by
 cases b
 ·refine⟨?_,35,[102],rfl,by decide,by decide,by decide,by decide⟩;intro F rest hF a;obtain⟨f,rfl⟩:∃f,F=f+1:=⟨F-1,by omega⟩;show rd (f+1) false d (35::102::rest)=_;rw[rd,qbf 35 _ (by decide) (by decide) (by decide)];show truth (102::rest)=_;exact qdn _ _ a
 ·refine⟨?_,35,[116],rfl,by decide,by decide,by decide,by decide⟩;intro F rest hF a;obtain⟨f,rfl⟩:∃f,F=f+1:=⟨F-1,by omega⟩;show rd (f+1) false d (35::116::rest)=_;rw[rd,qbf 35 _ (by decide) (by decide) (by decide)];show truth (116::rest)=_;exact qdn _ _ a
theorem qkk(d:Nat)(u:List UInt8)(b:u.all strB=true):qf2 d (34::(u++[34])) (.str u)/\qc1 (34::(u++[34])):=by
 refine⟨?_,34,_,rfl,by decide,by decide,by decide,by decide⟩;intro F rest hF c;obtain⟨f,rfl⟩:∃f,F=f+1:=⟨F-1,by omega⟩;have e:(34::(u++[34]))++rest=34::(u++34::rest):=by simp
 rw[e,rd,qbf 34 _ (by decide) (by decide) (by decide)];show str (u++34::rest)=_;have a:=qi3 u rest b;unfold str;rw[a.2,a.1];rfl
mutual
def wf(d:Nat):Dt->Bool
 | .num _=>true
 | .bool _=>true
 | .str s=>s.all strB
 | .sym s m=>m==0&&s.all wordB&&!s.isEmpty&&!numB s&&decide (s.length<=24)
 | .list l=>!(d==30)&&wfL (d+1) l
def wfL(d:Nat):List Dt->Bool
 | []=>true
 |t::r=>wf d t&&wfL d r
end
mutual
def nums:Dt->List Int
 | .num v=>[v]
 | .list l=>numsL l
 |_=>[]
def numsL:List Dt->List Int
 | []=>[]
 |t::r=>nums t++numsL r
end
def inR(v:Int):Prop:=-9223372036854775808<=v/\v<=9223372036854775807
mutual
theorem qi2:∀(t:Dt) (d:Nat),wf d t=true->(∀v,v∈nums t->inR v)->qf2 d t.wr t/\qc1 t.wr
 | .num v,d,_,hn=>qk9 d v (hn v (by simp[nums])).1 (hn v (by simp[nums])).2
 | .bool b,d,_,_=>qgs d b
 | .str s,d,h,_=>qkk d s h
 | .sym s m,d,h,_=>by
  simp only[wf,Bool.and_eq_true,beq_iff_eq,Bool.not_eq_true',decide_eq_true_eq]at h;obtain⟨⟨⟨⟨a,c⟩,f⟩,g⟩,j⟩:=h;subst a;exact qrk d s c (by intro e;subst e;simp at f) g (by omega)
 | .list l,d,h,hn=>by
  simp only[wf,Bool.and_eq_true,Bool.not_eq_true',beq_eq_false_iff_ne]at h;have i:=qkf l (d+1) h.2 hn;have:=qd8 d h.1 (Dt.wrs l) l i;exact this
theorem qkf:∀(l:List Dt) (d:Nat),wfL d l=true->(∀v,v∈numsL l->inR v)->Rows d (Dt.wrs l) l
 | [],_,_,_=>.nil
 |t::r,d,h,hn=>by
  simp only[wfL,Bool.and_eq_true]at h;have b:=qi2 t d h.1 (λv a=>hn v (by simp[numsL,a]));exact .cons b.1 b.2 (qkf r d h.2 (λv a=>hn v (by simp[numsL,a])))
end
mutual
def wq:Dt->List UInt8
 | .num v=>Lib.itoa v
 | .bool b=>if b then [35,116]else [35,102]
 | .str t=>34::(t++[34])
 | .sym t _=>t
 | .list []=>Px.paren []
 | .list [.sym s m,x]=>if s==quoteT&&m==0 then 39::wq x else Px.paren [s,wq x]
 | .list (x::l)=>Px.paren (wq x::wqs l)
def wqs:List Dt->List (List UInt8)
 | []=>[]
 |d::r=>wq d::wqs r
end
mutual
theorem wq_reads:∀(t:Dt) (d:Nat),wf d t=true->(∀v,v∈nums t->inR v)->qf2 d (wq t) t/\qc1 (wq t)
 | .num v,d,_,hn=>qk9 d v (hn v (by simp[nums])).1 (hn v (by simp[nums])).2
 | .bool b,d,_,_=>qgs d b
 | .str s,d,h,_=>qkk d s h
 | .sym s m,d,h,hn=>qi2 (.sym s m) d h hn
 | .list [],d,h,hn=>by
  simp only[wf,Bool.and_eq_true,Bool.not_eq_true',beq_eq_false_iff_ne]at h;exact qd8 d h.1 [] [] .nil
 | .list [.sym s m,x],d,h,hn=>by
  simp only[wf,wfL,Bool.and_eq_true,Bool.not_eq_true',beq_eq_false_iff_ne]at h;have e:=wq_reads x (d+1) h.2.2.1 (λv a=>hn v (by simp[nums,numsL,a]));have g:=qi2 (.sym s m) (d+1) (by simp only[wf,Bool.and_eq_true,Bool.not_eq_true'];exact h.2.1) (λv a=>by simp[nums]at a);rw[wq];by_cases c:(s==quoteT&&m==0)=true
  ·rw[if_pos c];simp only[Bool.and_eq_true,beq_iff_eq]at c;obtain⟨rfl,rfl⟩:=c;exact qg0 d h.1 _ _ e.1
  ·rw[if_neg c];exact qd8 d h.1 _ _ (.cons g.1 g.2 (.cons e.1 e.2 .nil))
 | .list (x::l),d,h,hn=>by
  simp only[wf,wfL,Bool.and_eq_true,Bool.not_eq_true',beq_eq_false_iff_ne]at h;have e:=wq_reads x (d+1) h.2.1 (λv a=>hn v (by simp[nums,numsL,a]));have i:=qke l (d+1) h.2.2 (λv a=>hn v (by simp[nums,numsL,a]));have f:=qd8 d h.1 _ _ (.cons e.1 e.2 i);cases x with
  |sym s m=>
   cases l with
   |nil=>exact f
   |cons y l=>
    cases l with
    |nil=>
     have j:=wq_reads y (d+1) (by simp only[wfL,Bool.and_eq_true]at h;exact h.2.2.1) (λv a=>hn v (by simp[nums,numsL,a]));rw[wq];by_cases c:(s==quoteT&&m==0)=true
     ·rw[if_pos c];simp only[Bool.and_eq_true,beq_iff_eq]at c;obtain⟨rfl,rfl⟩:=c;exact qg0 d h.1 _ _ j.1
     ·rw[if_neg c];exact f
    |cons z l=>exact f
  |_=>exact f
theorem qke:∀(l:List Dt) (d:Nat),wfL d l=true->(∀v,v∈numsL l->inR v)->Rows d (wqs l) l
 | [],_,_,_=>.nil
 |t::r,d,h,hn=>by
  simp only[wfL,Bool.and_eq_true]at h;have b:=wq_reads t d h.1 (λv a=>hn v (by simp[numsL,a]));exact .cons b.1 b.2 (qke r d h.2 (λv a=>hn v (by simp[numsL,a])))
end
inductive Forms:List UInt8->List (Dt×Nat)->Prop
 |nil:Forms [] []
 |cons {u rest:List UInt8} {t:Dt} {fs:List (Dt×Nat)}:qf2 0 u t->qc1 u->qxn rest->Forms rest fs->Forms (u++rest) ((t,u.length+rest.length)::fs)
theorem forms_top:∀{l:List UInt8} {fs:List (Dt×Nat)},Forms l fs->∀f,2*l.length+2<=f->topP f l=.inr (fs,[])
 |_,_,.nil,f,hf=>by
  obtain⟨g,rfl⟩:∃g,f=g+1:=⟨f-1,by omega⟩;rfl
 |_,_,.cons (u:=u) (rest:=rest) (t:=t) (fs:=fs) h1 h2 h3 h4,f,hf=>by
  have a:(u++rest).length=u.length+rest.length:=List.length_append;have b:1<=u.length:=by obtain⟨c,r,e,_⟩:=h2;rw[e];simp
  rw[qrj f u rest t h1 h2 h3 (by omega),forms_top h4 (f-1) (by omega)];rfl
end Py
namespace Sc
open Go
def qnx(r:(Option Nat×Nat)×Option Vl×Xs×Mc)(v:Bs):Prop:=r.1.1=Option.none/\r.2.1.map wr=some v/\r.2.2.2.out=[]/\r.2.2.2.evs=[]
def qcx(ds:List Dt):Bs:=(ds.map Py.wq).flatten
def qdd(d:Dt):Bool:=Py.wf 0 d&&(match Py.wq d with|40::_=>true|_=>false)
theorem forms_of:∀f:List Dt,(∀d,d∈f->qdd d=true/\∀v,v∈Py.nums d->Py.inR v)->∃fs,Py.Forms (qcx f) fs/\fs.map (·.1)=f
 | [],_=>⟨[],.nil,rfl⟩
 |d::r,h=>by
  obtain⟨fs,k,m⟩:=forms_of r (λx g=>h x (List.mem_cons_of_mem _ g));obtain⟨i,n⟩:=h d (List.mem_cons_self ..);simp only[qdd,Bool.and_eq_true]at i;have j:=Py.wq_reads d 0 i.1 n;refine⟨_,.cons j.1 j.2 ?_ k,by simp[m]⟩;intro c l e;cases r with
  |nil=>simp at e
  |cons b r2=>
   change qcx (b::r2)=c::l at e;have a:=(h b (by simp)).1;simp only[qdd,Bool.and_eq_true]at a;have e2:qcx (b::r2)=Py.wq b++qcx r2:=by simp[qcx]
   rw[e2]at e;cases hw:Py.wq b with
   |nil=>rw[hw]at a;simp at a
   |cons c2 o=>
    rw[hw]at a e;simp only[List.cons_append,List.cons.injEq]at e;rw[<-e.1];split at a
    ·rename_i g;cases g;decide
    ·simp at a
end Sc
end
section
namespace Sc
open Go
abbrev Mc.st(m:Mc)(k:Nat):Mc:={m with steps:=m.steps+k}
end Sc
end
section
namespace Sc
open Go
end Sc
end
end Go.Proofs.YtldaocpojcfljaaGreatDoor
namespace Go.Proofs
open Tryz
open Go.Shelf
def Tryz.lays137_ren:Go.Shelf.Ren:=⟨fun|137=>245|217=>300|266=>341|n=>n,fun|n=>n,fun|n=>n⟩
theorem Tryz.lays137:Go.Proofs.Lays.n137 prog Tryz.lays137_ren:={
 mixed:=by kernel_rfl
 f137:=func245.trans (congrArg some (by kernel_rfl))
 f217:=func300.trans (congrArg some (by kernel_rfl))
 f266:=func341.trans (congrArg some (by kernel_rfl))
 t3:=underlying3
 a3:=Tryz.isAgg3
 z3:=Tryz.sizeOf3
 v3:=Tryz.zeroValue3
 t5:=underlying5
 a5:=Tryz.isAgg5
 z5:=Tryz.sizeOf5
 v5:=Tryz.zeroValue5
 t9:=underlying9
 a9:=Tryz.isAgg9
 z9:=Tryz.sizeOf9
 v9:=Tryz.zeroValue9}
open Go.RowKit in
theorem Tryz.strings_IndexByte(s:ByteArray)(c:Int)(w:World):
  Calls prog 245 #[.string s,.int .u8 c] w λe w'=>e=.returned (.int .i64 (Lib.indexByte s.data.toList c.toNat.toUInt8))/\w'=w:=Any.strings_IndexByte Tryz.lays137 s c w
def Tryz.laysM173_ren:Go.Shelf.Ren:=⟨fun|129=>94|173=>218|246=>41|283=>63|284=>64|285=>65|286=>66|317=>93|318=>95|319=>96|320=>97|337=>159|338=>160|n=>n,fun|37=>128|46=>194|51=>191|53=>146|171=>145|173=>149|212=>190|213=>192|232=>344|233=>345|n=>n,fun|17=>0|18=>1|19=>2|n=>n⟩
theorem Tryz.laysM173:Go.Proofs.LaysM.n173 prog Tryz.laysM173_ren:={
 mixed:=by kernel_rfl
 f129:=func94.trans (congrArg some (by kernel_rfl))
 f173:=func218.trans (congrArg some (by kernel_rfl))
 f246:=func41.trans (congrArg some (by kernel_rfl))
 f283:=func63.trans (congrArg some (by kernel_rfl))
 f284:=func64.trans (congrArg some (by kernel_rfl))
 f285:=func65.trans (congrArg some (by kernel_rfl))
 f286:=func66.trans (congrArg some (by kernel_rfl))
 f317:=func93.trans (congrArg some (by kernel_rfl))
 f318:=func95.trans (congrArg some (by kernel_rfl))
 f319:=func96.trans (congrArg some (by kernel_rfl))
 f320:=func97.trans (congrArg some (by kernel_rfl))
 f337:=func159.trans (congrArg some (by kernel_rfl))
 f338:=func160.trans (congrArg some (by kernel_rfl))
 t0:=underlying0
 a0:=Tryz.isAgg0
 z0:=Tryz.sizeOf0
 v0:=Tryz.zeroValue0
 t2:=underlying2
 a2:=Tryz.isAgg2
 z2:=Tryz.sizeOf2
 v2:=Tryz.zeroValue2
 t3:=underlying3
 a3:=Tryz.isAgg3
 z3:=Tryz.sizeOf3
 v3:=Tryz.zeroValue3
 t4:=underlying4
 a4:=Tryz.isAgg4
 z4:=Tryz.sizeOf4
 v4:=Tryz.zeroValue4
 t5:=underlying5
 a5:=Tryz.isAgg5
 z5:=Tryz.sizeOf5
 v5:=Tryz.zeroValue5
 t9:=underlying9
 a9:=Tryz.isAgg9
 z9:=Tryz.sizeOf9
 v9:=Tryz.zeroValue9
 t20:=underlying20
 a20:=Tryz.isAgg20
 z20:=Tryz.sizeOf20
 v20:=Tryz.zeroValue20
 t37:=underlying128
 a37:=Tryz.isAgg128
 z37:=Tryz.sizeOf128
 v37:=Tryz.zeroValue128
 t46:=underlying194
 a46:=Tryz.isAgg194
 z46:=Tryz.sizeOf194
 v46:=Tryz.zeroValue194
 t51:=underlying191
 a51:=Tryz.isAgg191
 z51:=Tryz.sizeOf191
 v51:=Tryz.zeroValue191
 t53:=underlying146
 a53:=Tryz.isAgg146
 z53:=Tryz.sizeOf146
 v53:=Tryz.zeroValue146
 t171:=underlying145
 a171:=Tryz.isAgg145
 z171:=Tryz.sizeOf145
 v171:=Tryz.zeroValue145
 t173:=underlying149
 a173:=Tryz.isAgg149
 z173:=Tryz.sizeOf149
 v173:=Tryz.zeroValue149
 t212:=underlying190
 a212:=Tryz.isAgg190
 z212:=Tryz.sizeOf190
 v212:=Tryz.zeroValue190
 t213:=underlying192
 a213:=Tryz.isAgg192
 z213:=Tryz.sizeOf192
 t232:=underlying344
 a232:=Tryz.isAgg344
 z232:=Tryz.sizeOf344
 v232:=Tryz.zeroValue344
 t233:=underlying345
 a233:=Tryz.isAgg345
 z233:=Tryz.sizeOf345
 v233:=Tryz.zeroValue345
 g17:=by kernel_rfl
 g18:=by kernel_rfl
 g19:=by kernel_rfl
 i0:=by kernel_rfl
 i2:=by kernel_rfl
 i3:=by kernel_rfl
 i4:=by kernel_rfl
 i5:=by kernel_rfl
 i9:=by kernel_rfl
 i20:=by kernel_rfl
 i37:=by kernel_rfl
 i46:=by kernel_rfl
 i51:=by kernel_rfl
 i53:=by kernel_rfl
 i171:=by kernel_rfl
 i173:=by kernel_rfl
 i212:=by kernel_rfl
 i232:=by kernel_rfl
 i233:=by kernel_rfl
 m17:=by kernel_rfl
 m18:=by kernel_rfl
 m19:=by kernel_rfl}
open Go.RowKit Go.Sort Go.Lib in
theorem Tryz.strconv_FormatInt_10(n:Int)(b:-9223372036854775808<=n)(c:n<=9223372036854775807)(w:World)(a:Lib.TabIs prog w "internal/strconv.uint64pow10" .u64 Lib.pow10Tab):
  Calls prog 218 #[.int .i64 n,.int .i64 10] w λe w'=>e=.returned (.string ⟨(Lib.itoa n).toArray⟩)/\∃k d,w'=grow (w.drewN k) d:=Any.strconv_FormatInt_10 Tryz.laysM173 n b c w a
def Tryz.laysM171_ren:Go.Shelf.Ren:=⟨fun|129=>94|171=>12|243=>31|246=>41|283=>63|284=>64|285=>65|286=>66|317=>93|318=>95|319=>96|320=>97|337=>159|338=>160|n=>n,fun|37=>128|46=>194|51=>191|53=>146|171=>145|173=>149|212=>190|213=>192|232=>344|233=>345|n=>n,fun|17=>0|18=>1|19=>2|n=>n⟩
theorem Tryz.laysM171:Go.Proofs.LaysM.n171 prog Tryz.laysM171_ren:={
 mixed:=by kernel_rfl
 f129:=func94.trans (congrArg some (by kernel_rfl))
 f171:=func12.trans (congrArg some (by kernel_rfl))
 f243:=func31.trans (congrArg some (by kernel_rfl))
 f246:=func41.trans (congrArg some (by kernel_rfl))
 f283:=func63.trans (congrArg some (by kernel_rfl))
 f284:=func64.trans (congrArg some (by kernel_rfl))
 f285:=func65.trans (congrArg some (by kernel_rfl))
 f286:=func66.trans (congrArg some (by kernel_rfl))
 f317:=func93.trans (congrArg some (by kernel_rfl))
 f318:=func95.trans (congrArg some (by kernel_rfl))
 f319:=func96.trans (congrArg some (by kernel_rfl))
 f320:=func97.trans (congrArg some (by kernel_rfl))
 f337:=func159.trans (congrArg some (by kernel_rfl))
 f338:=func160.trans (congrArg some (by kernel_rfl))
 t0:=underlying0
 a0:=Tryz.isAgg0
 z0:=Tryz.sizeOf0
 v0:=Tryz.zeroValue0
 t2:=underlying2
 a2:=Tryz.isAgg2
 z2:=Tryz.sizeOf2
 v2:=Tryz.zeroValue2
 t3:=underlying3
 a3:=Tryz.isAgg3
 z3:=Tryz.sizeOf3
 v3:=Tryz.zeroValue3
 t4:=underlying4
 a4:=Tryz.isAgg4
 z4:=Tryz.sizeOf4
 v4:=Tryz.zeroValue4
 t5:=underlying5
 a5:=Tryz.isAgg5
 z5:=Tryz.sizeOf5
 v5:=Tryz.zeroValue5
 t9:=underlying9
 a9:=Tryz.isAgg9
 z9:=Tryz.sizeOf9
 v9:=Tryz.zeroValue9
 t20:=underlying20
 a20:=Tryz.isAgg20
 z20:=Tryz.sizeOf20
 v20:=Tryz.zeroValue20
 t37:=underlying128
 a37:=Tryz.isAgg128
 z37:=Tryz.sizeOf128
 v37:=Tryz.zeroValue128
 t46:=underlying194
 a46:=Tryz.isAgg194
 z46:=Tryz.sizeOf194
 v46:=Tryz.zeroValue194
 t51:=underlying191
 a51:=Tryz.isAgg191
 z51:=Tryz.sizeOf191
 v51:=Tryz.zeroValue191
 t53:=underlying146
 a53:=Tryz.isAgg146
 z53:=Tryz.sizeOf146
 v53:=Tryz.zeroValue146
 t171:=underlying145
 a171:=Tryz.isAgg145
 z171:=Tryz.sizeOf145
 v171:=Tryz.zeroValue145
 t173:=underlying149
 a173:=Tryz.isAgg149
 z173:=Tryz.sizeOf149
 v173:=Tryz.zeroValue149
 t212:=underlying190
 a212:=Tryz.isAgg190
 z212:=Tryz.sizeOf190
 v212:=Tryz.zeroValue190
 t213:=underlying192
 a213:=Tryz.isAgg192
 z213:=Tryz.sizeOf192
 t232:=underlying344
 a232:=Tryz.isAgg344
 z232:=Tryz.sizeOf344
 v232:=Tryz.zeroValue344
 t233:=underlying345
 a233:=Tryz.isAgg345
 z233:=Tryz.sizeOf345
 v233:=Tryz.zeroValue345
 g17:=by kernel_rfl
 g18:=by kernel_rfl
 g19:=by kernel_rfl
 i0:=by kernel_rfl
 i2:=by kernel_rfl
 i3:=by kernel_rfl
 i4:=by kernel_rfl
 i5:=by kernel_rfl
 i9:=by kernel_rfl
 i20:=by kernel_rfl
 i37:=by kernel_rfl
 i46:=by kernel_rfl
 i51:=by kernel_rfl
 i53:=by kernel_rfl
 i171:=by kernel_rfl
 i173:=by kernel_rfl
 i212:=by kernel_rfl
 i232:=by kernel_rfl
 i233:=by kernel_rfl
 m17:=by kernel_rfl
 m18:=by kernel_rfl
 m19:=by kernel_rfl}
open Go.RowKit Go.Sort Go.Lib in
theorem Tryz.strconv_Itoa(n:Int)(b:-9223372036854775808<=n)(c:n<=9223372036854775807)(w:World)(a:Lib.TabIs prog w "internal/strconv.uint64pow10" .u64 Lib.pow10Tab):
  Calls prog 12 #[.int .i64 n] w λe w'=>e=.returned (.string ⟨(Lib.itoa n).toArray⟩)/\∃k d,w'=grow (w.drewN k) d:=Any.strconv_Itoa Tryz.laysM171 n b c w a
def Tryz.laysC174_ren:Go.Shelf.Ren:=⟨fun|129=>94|171=>12|174=>247|205=>381|243=>31|245=>303|246=>41|247=>302|279=>344|280=>345|281=>346|282=>347|283=>63|284=>64|285=>65|286=>66|287=>343|316=>380|317=>93|318=>95|319=>96|320=>97|321=>378|322=>379|337=>159|338=>160|n=>n,fun|37=>128|46=>194|51=>191|53=>146|75=>142|80=>144|85=>341|127=>187|143=>473|145=>475|167=>428|168=>431|171=>145|173=>149|175=>429|210=>455|212=>190|213=>192|232=>344|233=>345|n=>n,fun|15=>4|16=>5|17=>0|18=>1|19=>2|n=>n⟩
theorem Tryz.laysC174:Go.Proofs.LaysC.n174 prog Tryz.laysC174_ren:={
 mixed:=by kernel_rfl
 f129:=func94.trans (congrArg some (by kernel_rfl))
 f171:=func12.trans (congrArg some (by kernel_rfl))
 f174:=func247.trans (congrArg some (by kernel_rfl))
 f205:=func381.trans (congrArg some (by kernel_rfl))
 f243:=func31.trans (congrArg some (by kernel_rfl))
 f245:=func303.trans (congrArg some (by kernel_rfl))
 f246:=func41.trans (congrArg some (by kernel_rfl))
 f247:=func302.trans (congrArg some (by kernel_rfl))
 f279:=func344.trans (congrArg some (by kernel_rfl))
 f280:=func345.trans (congrArg some (by kernel_rfl))
 f281:=func346.trans (congrArg some (by kernel_rfl))
 f282:=func347.trans (congrArg some (by kernel_rfl))
 f283:=func63.trans (congrArg some (by kernel_rfl))
 f284:=func64.trans (congrArg some (by kernel_rfl))
 f285:=func65.trans (congrArg some (by kernel_rfl))
 f286:=func66.trans (congrArg some (by kernel_rfl))
 f287:=func343.trans (congrArg some (by kernel_rfl))
 f316:=func380.trans (congrArg some (by kernel_rfl))
 f317:=func93.trans (congrArg some (by kernel_rfl))
 f318:=func95.trans (congrArg some (by kernel_rfl))
 f319:=func96.trans (congrArg some (by kernel_rfl))
 f320:=func97.trans (congrArg some (by kernel_rfl))
 f321:=func378.trans (congrArg some (by kernel_rfl))
 f322:=func379.trans (congrArg some (by kernel_rfl))
 f337:=func159.trans (congrArg some (by kernel_rfl))
 f338:=func160.trans (congrArg some (by kernel_rfl))
 t0:=underlying0
 a0:=Tryz.isAgg0
 z0:=Tryz.sizeOf0
 v0:=Tryz.zeroValue0
 t2:=underlying2
 a2:=Tryz.isAgg2
 z2:=Tryz.sizeOf2
 v2:=Tryz.zeroValue2
 t3:=underlying3
 a3:=Tryz.isAgg3
 z3:=Tryz.sizeOf3
 v3:=Tryz.zeroValue3
 t4:=underlying4
 a4:=Tryz.isAgg4
 z4:=Tryz.sizeOf4
 v4:=Tryz.zeroValue4
 t5:=underlying5
 a5:=Tryz.isAgg5
 z5:=Tryz.sizeOf5
 v5:=Tryz.zeroValue5
 t9:=underlying9
 a9:=Tryz.isAgg9
 z9:=Tryz.sizeOf9
 v9:=Tryz.zeroValue9
 t20:=underlying20
 a20:=Tryz.isAgg20
 z20:=Tryz.sizeOf20
 v20:=Tryz.zeroValue20
 t21:=underlying21
 a21:=Tryz.isAgg21
 z21:=Tryz.sizeOf21
 v21:=Tryz.zeroValue21
 t37:=underlying128
 a37:=Tryz.isAgg128
 z37:=Tryz.sizeOf128
 v37:=Tryz.zeroValue128
 t46:=underlying194
 a46:=Tryz.isAgg194
 z46:=Tryz.sizeOf194
 v46:=Tryz.zeroValue194
 t51:=underlying191
 a51:=Tryz.isAgg191
 z51:=Tryz.sizeOf191
 v51:=Tryz.zeroValue191
 t53:=underlying146
 a53:=Tryz.isAgg146
 z53:=Tryz.sizeOf146
 v53:=Tryz.zeroValue146
 t75:=underlying142
 a75:=Tryz.isAgg142
 z75:=Tryz.sizeOf142
 v75:=Tryz.zeroValue142
 t85:=underlying341
 a85:=Tryz.isAgg341
 z85:=Tryz.sizeOf341
 v85:=Tryz.zeroValue341
 t127:=underlying187
 a127:=Tryz.isAgg187
 z127:=Tryz.sizeOf187
 v127:=Tryz.zeroValue187
 t143:=underlying473
 a143:=Tryz.isAgg473
 z143:=Tryz.sizeOf473
 v143:=Tryz.zeroValue473
 t145:=underlying475
 a145:=Tryz.isAgg475
 z145:=Tryz.sizeOf475
 v145:=Tryz.zeroValue475
 t167:=underlying428
 a167:=Tryz.isAgg428
 z167:=Tryz.sizeOf428
 v167:=Tryz.zeroValue428
 t168:=underlying431
 a168:=Tryz.isAgg431
 z168:=Tryz.sizeOf431
 v168:=Tryz.zeroValue431
 t171:=underlying145
 a171:=Tryz.isAgg145
 z171:=Tryz.sizeOf145
 v171:=Tryz.zeroValue145
 t173:=underlying149
 a173:=Tryz.isAgg149
 z173:=Tryz.sizeOf149
 v173:=Tryz.zeroValue149
 t175:=underlying429
 a175:=Tryz.isAgg429
 z175:=Tryz.sizeOf429
 v175:=Tryz.zeroValue429
 t210:=underlying455
 a210:=Tryz.isAgg455
 z210:=Tryz.sizeOf455
 v210:=Tryz.zeroValue455
 t212:=underlying190
 a212:=Tryz.isAgg190
 z212:=Tryz.sizeOf190
 v212:=Tryz.zeroValue190
 t213:=underlying192
 a213:=Tryz.isAgg192
 z213:=Tryz.sizeOf192
 t232:=underlying344
 a232:=Tryz.isAgg344
 z232:=Tryz.sizeOf344
 v232:=Tryz.zeroValue344
 t233:=underlying345
 a233:=Tryz.isAgg345
 z233:=Tryz.sizeOf345
 v233:=Tryz.zeroValue345
 g15:=by kernel_rfl
 g16:=by kernel_rfl
 g17:=by kernel_rfl
 g18:=by kernel_rfl
 g19:=by kernel_rfl
 t80:=underlying144
 a80:=Tryz.isAgg144
 z80:=Tryz.sizeOf144
 v80:=Tryz.zeroValue144
 i0:=by kernel_rfl
 i2:=by kernel_rfl
 i3:=by kernel_rfl
 i4:=by kernel_rfl
 i5:=by kernel_rfl
 i9:=by kernel_rfl
 i20:=by kernel_rfl
 i21:=by kernel_rfl
 i37:=by kernel_rfl
 i46:=by kernel_rfl
 i51:=by kernel_rfl
 i53:=by kernel_rfl
 i75:=by kernel_rfl
 i80:=by kernel_rfl
 i85:=by kernel_rfl
 i127:=by kernel_rfl
 i143:=by kernel_rfl
 i145:=by kernel_rfl
 i167:=by kernel_rfl
 i168:=by kernel_rfl
 i171:=by kernel_rfl
 i173:=by kernel_rfl
 i175:=by kernel_rfl
 i210:=by kernel_rfl
 i212:=by kernel_rfl
 i232:=by kernel_rfl
 i233:=by kernel_rfl
 m15:=by kernel_rfl
 m16:=by kernel_rfl
 m17:=by kernel_rfl
 m18:=by kernel_rfl
 m19:=by kernel_rfl
 c0:=by kernel_rfl
 c2:=by kernel_rfl
 c3:=by kernel_rfl
 c4:=by kernel_rfl
 c5:=by kernel_rfl
 c9:=by kernel_rfl
 c20:=by kernel_rfl
 c21:=by kernel_rfl
 c37:=by kernel_rfl
 c46:=by kernel_rfl
 c51:=by kernel_rfl
 c53:=by kernel_rfl
 c75:=by kernel_rfl
 c80:=by kernel_rfl
 c85:=by kernel_rfl
 c127:=by kernel_rfl
 c143:=by kernel_rfl
 c145:=by kernel_rfl
 c167:=by kernel_rfl
 c168:=by kernel_rfl
 c171:=by kernel_rfl
 c173:=by kernel_rfl
 c175:=by kernel_rfl
 c210:=by kernel_rfl
 c212:=by kernel_rfl
 c213:=by kernel_rfl
 c232:=by kernel_rfl
 c233:=by kernel_rfl}
open Go.RowKit in
theorem Tryz.strconv_ParseInt_10_at64_ok(s:ByteArray)(a:s.size<=9223372036854775806)(v:Int)(h:Lib.parseIntB 64 s.data.toList=.ok v)(w:World):
  Calls prog 247 #[.string s,.int .i64 10,.int .i64 64] w λe w'=>e=.returned (.tuple #[.int .i64 v,.nilIface])/\(w'=w\/∃t,w'=Lib.bytesWorld w 5 t):=Any.strconv_ParseInt_10_at64_ok Tryz.laysC174 s a v h w
open Go.RowKit in
theorem Tryz.strconv_ParseInt_10_at64_range_var(s:ByteArray)(a:s.size<=281474976710656)(h:Lib.parseIntB 64 s.data.toList=.range)(c:TypeId)(p:Value)(w:World)(b:w.var? prog "strconv.ErrRange" =some #[.iface c p]):
  Calls prog 247 #[.string s,.int .i64 10,.int .i64 64] w λe w'=>∃N,e=.returned (.tuple #[.int .i64 (Lib.intSat 64 s.data.toList),.iface 431 (.pointer (some ⟨N,0,none⟩))])/\w.heap.size<=N/\w'.heap[N]? =some (.cells #[.string ⟨#[80,97,114,115,101,73,110,116]⟩,.string s,.iface c p] 455 (0,0))/\Below w.heap.size w w':=Any.strconv_ParseInt_10_at64_range_var Tryz.laysC174 s a h c p w b
def Tryz.lays101_ren:Go.Shelf.Ren:=⟨fun|101=>301|206=>377|208=>342|n=>n,fun|n=>n,fun|n=>n⟩
theorem Tryz.lays101:Go.Proofs.Lays.n101 prog Tryz.lays101_ren:={
 mixed:=by kernel_rfl
 f101:=func301.trans (congrArg some (by kernel_rfl))
 f206:=func377.trans (congrArg some (by kernel_rfl))
 f208:=func342.trans (congrArg some (by kernel_rfl))
 t3:=underlying3
 a3:=Tryz.isAgg3
 z3:=Tryz.sizeOf3
 v3:=Tryz.zeroValue3
 t4:=underlying4
 a4:=Tryz.isAgg4
 z4:=Tryz.sizeOf4
 v4:=Tryz.zeroValue4
 t9:=underlying9
 a9:=Tryz.isAgg9
 z9:=Tryz.sizeOf9
 v9:=Tryz.zeroValue9}
open Go.RowKit Go.Lib in
theorem Tryz.strings_TrimPrefix(s p:ByteArray)(w:World):
  Calls prog 301 #[.string s,.string p] w λe w'=>e=.returned (.string ⟨(Lib.trimPrefix s.data.toList p.data.toList).toArray⟩)/\w'=w:=Any.strings_TrimPrefix Tryz.lays101 s p w
end Go.Proofs
namespace Go.Proofs.YtldaocpojcfljaaGreatDoor
open Tryz hiding parts
section
namespace Rd
open Go.RowKit
def Rd(b:Nat)(s:BA)(p d:Nat)(w:Wd):Prop:=
 w.heap[b]? =some (.cells #[.string s,.int .i64 (p:Int),.int .i64 (d:Int)] 175 (0,0))
theorem Rd.c0{b:Nat}{s:BA}{p d:Nat}{w:Wd}(h:Rd b s p d w):w.cell? ⟨b,0,none⟩=some (.string s):=by
 unfold Rd at h;simp[World.cell?,h]
theorem Rd.c1{b:Nat}{s:BA}{p d:Nat}{w:Wd}(h:Rd b s p d w):w.cell? ⟨b,1,none⟩=some (.int .i64 (p:Int)):=by
 unfold Rd at h;simp[World.cell?,h]
theorem Rd.c2{b:Nat}{s:BA}{p d:Nat}{w:Wd}(h:Rd b s p d w):w.cell? ⟨b,2,none⟩=some (.int .i64 (d:Int)):=by
 unfold Rd at h;simp[World.cell?,h]
theorem Rd.fz{b:Nat}{s:BA}{p d:Nat}{w:Wd}(h:Rd b s p d w)(o:Nat):w.frozen? ⟨b,o,none⟩=false:=by
 unfold Rd at h;simp[World.frozen?,h]
theorem Rd.drewN{b:Nat}{s:BA}{p d:Nat}{w:Wd}(h:Rd b s p d w)(n:Nat):Rd b s p d (w.drewN n):=by
 unfold Rd at*;simpa using h
theorem qai(b:Nat)(s:BA)(p d:Nat)(w:Wd)(h:Rd b s p d w):
  Calls prog 87 #[.pointer (some ⟨b,0,none⟩)] w λe w'=>e=.returned (.bool (((p:Int)==(s.size:Int))))/\∃n,w'=w.drewN n:=by
 have a:=h.c0;have c:=h.c1;clear h;go_enter func87,ntmps87
 go_wp2;go_quiet (fail)
 go_wp2;go_ret;exact⟨rfl,_,rfl⟩
theorem qib(b:Nat)(s:BA)(p d:Nat)(c:Int)(w:Wd)(h:Rd b s p d w)(a:p=s.size):
  Calls prog 237 #[.pointer (some ⟨b,0,none⟩),.int .u8 c] w λe w'=>e=.returned (.bool false)/\∃n,w'=w.drewN n:=by
 have g:=h.c0;have i:=h.c1;have f:Hid (Rd b s p d w):=h;have j:((p:Int)==(s.size:Int))=true:=by simp[a]
 clear h a;go_enter func237,ntmps237
 go_wp2;go_quiet ((go_at_call 87;exact Calls.quiet_of (qai b s p d _ (f.out.drewN _))))
 go_wp2;go_ret;exact⟨rfl,_,rfl⟩
theorem qb4(b:Nat)(s:BA)(p d:Nat)(c:Int)(w:Wd)(h:Rd b s p d w)(f:p<s.size):
  Calls prog 237 #[.pointer (some ⟨b,0,none⟩),.int .u8 c] w λe w'=>e=.returned (.bool ((s[p].toNat:Int)==c))/\∃n,w'=w.drewN n:=by
 have g:=h.c0;have i:=h.c1;have a:Hid (Rd b s p d w):=h;have j:((p:Int)==(s.size:Int))=false:=by simp;omega
 clear h;go_enter func237,ntmps237
 go_wp2;go_quiet ((go_at_call 87;exact Calls.quiet_of (qai b s p d _ (a.out.drewN _))))
 go_wp2;go_ret;exact⟨rfl,_,rfl⟩
def L(s:BA)(p:Nat):List UInt8:=s.data.toList.drop p
theorem qgq(s:BA)(p:Nat)(h:p<s.size):L s p=s[p]::L s (p+1):=by
 unfold L;rw[List.drop_eq_getElem_cons (by simpa using h)];rfl
theorem qkb(s:BA)(p:Nat)(h:s.size<=p):L s p=[]:=by
 unfold L;exact List.drop_eq_nil_of_le (by simpa using h)
theorem qc6(s:BA)(p:Nat):(L s p).length=s.size-p:=by
 unfold L;rw[List.length_drop];rfl
abbrev Only(b:Nat)(w w':Wd):Prop:=w.grownBy w' (some b)
theorem Only.drewN{b:Nat}{w w':Wd}(h:Only b w w')(n:Nat):Only b w (w'.drewN n):=⟨h.os,h.tape,h.output,h.size,h.block⟩
theorem Only.refl(b:Nat)(w:Wd):Only b w w:=⟨rfl,rfl,rfl,eR _,λ_ _ _=>rfl⟩
theorem Only.trans{b:Nat}{w w1 w2:Wd}(h:Only b w w1)(k:Only b w1 w2):Only b w w2:=
 ⟨k.os.trans h.os,k.tape.trans h.tape,k.output.trans h.output,eT h.size k.size,λi a c=>(k.block i (eW a h.size) c).trans (h.block i a c)⟩
theorem Only.set{b:Nat}{w w':Wd}(h:Only b w w')(o:Nat)(v:Vu):Only b w (w'.setCell ⟨b,o,none⟩ v):=
 h.trans ⟨rfl,rfl,rfl,by simp[World.setCell],λk _ a=>Below.heap_setCell _ _ _ _ (λe=>a (by rw[e]))⟩
theorem Only.alloc{b:Nat}{w w':Wd}(h:Only b w w')(o:Obj):Only b w (w'.alloc o):=h.trans (World.grownBy_alloc _ _ _)
theorem Rd.set1{b:Nat}{s:BA}{p d:Nat}{w:Wd}(h:Rd b s p d w)(q:Nat)(z:Int)(a:z=(q:Int)):Rd b s q d (w.setCell ⟨b,1,none⟩ (.int .i64 z)):=by
 subst a;unfold Rd at*;simp[World.setCell,Array.getElem?_modify,h]
theorem Rd.set2{b:Nat}{s:BA}{p d:Nat}{w:Wd}(h:Rd b s p d w)(q:Nat)(z:Int)(a:z=(q:Int)):Rd b s p q (w.setCell ⟨b,2,none⟩ (.int .i64 z)):=by
 subst a;unfold Rd at*;simp[World.setCell,Array.getElem?_modify,h]
theorem Rd.lt{b:Nat}{s:BA}{p d:Nat}{w:Wd}(h:Rd b s p d w):b<w.heap.size:=(eE.1 h).1
theorem Rd.alloc{b:Nat}{s:BA}{p d:Nat}{w:Wd}(h:Rd b s p d w)(o:Obj):Rd b s p d (w.alloc o):=by
 have:=h.lt;unfold Rd at*;rw[eH w o b this];exact h
def qdi(b:Nat)(w:Wd):Nat:=match w.cell? ⟨b,1,none⟩with|some (.int _ q)=>q.toNat|_=>0
theorem Rd.pos{b:Nat}{s:BA}{p d:Nat}{w:Wd}(h:Rd b s p d w):qdi b w=p:=by
 unfold qdi;rw[h.c1];simp
end Rd
end
section
namespace Rd
open Go.RowKit
theorem qpl(s:BA)(q:Nat)(h:q<s.size)(a:((s[q].toNat:Int)==10)=false):Px.skip true (L s q)=Px.skip true (L s (q+1)):=by
 rw[qgq s q h,Px.skip,if_neg (by have:=beq_eq_false_iff_ne.1 a;omega)]
theorem qrs(s:BA)(q:Nat)(h:s.size<=q):Px.skip true (L s q)=Px.skip false (L s q):=by
 rw[qkb s q h];rfl
theorem qvg(s:BA)(q:Nat)(h:q<s.size)(a:((s[q].toNat:Int)==10)=true):Px.skip true (L s q)=Px.skip false (L s q):=by
 have:s[q].toNat=10:=by have:=beq_iff_eq.1 a;omega
 rw[qgq s q h,Px.skip,Px.skip,if_pos this,if_pos (.inr this)]
theorem qgx(b:Nat)(s:BA)(p d:Nat)(w:Wd)(h:Rd b s p d w)(x:p<=s.size)(z:s.size<=1200):
  Calls prog 146 #[.pointer (some ⟨b,0,none⟩)] w λe w'=>e=.returned (.tuple #[])/\∃q,p<=q/\q<=s.size/\Px.skip true (L s p)=Px.skip false (L s q)/\(∀h:q<s.size,(s[q].toNat:Int)=10)/\Rd b s q d w'/\Only b w w':=by
 go_enter func146,ntmps146
 go_wp2;go_loopw [] (λwr=>∃q,p<=q/\q<=s.size/\Px.skip true (L s p)=Px.skip true (L s q)/\Rd b s q d wr/\Only b w wr) (λwr=>s.size-qdi b wr)
 case atStart=>exact⟨p,eR _,x,rfl,h,Only.refl _ _⟩
 case round=>
  obtain⟨q,j,t,k,i,u⟩:=hrel;have n:Hid (Px.skip true (L s p)=Px.skip true (L s q)):=k;clear k;have A:=i.c0;have B:=i.c1;have C:=i.fz 1;have f:Hid (Rd b s q d wr):=i;have o:Hid (Only b w wr):=u;have g:qdi b wr=q:=i.pos;have l:Hid (qdi b wr=q):=g;clear i u g h;by_cases a:q<s.size
  ·have y:((q:Int)==(s.size:Int))=false:=by simp;omega
   cases hc:((s[q].toNat:Int)==10)
   ·have m:=qpl s q a hc;have c:Hid (Px.skip true (L s q)=Px.skip true (L s (q+1))):=m;clear m;go_wp2_with (first|(go_at_call 87;refine(qai b s q d _ f.out).mono ?_;rintro e w' ⟨rfl,r,rfl⟩)|(go_at_call 237;refine(qb4 b s q d _ _ (f.out.drewN _) a).mono ?_;rintro e w' ⟨rfl,v,rfl⟩))
    go_roundw
    case rel=>exact⟨q+1,by omega,by omega,n.out.trans c.out,(f.out.drewN _).set1 _ _ (by omega),(o.out.drewN _).set _ _⟩
    case measure=>
     have e1:=l.out;have e2:=((f.out.drewN (r+v)).set1 (q+1) ((q:Int)+1) (by omega)).pos;rw[e1,e2];omega
   ·have c:Hid (Px.skip true (L s q)=Px.skip false (L s q)):=qvg s q a hc;go_wp2_with (first|(go_at_call 87;refine(qai b s q d _ f.out).mono ?_;rintro e w' ⟨rfl,r,rfl⟩)|(go_at_call 237;refine(qb4 b s q d _ _ (f.out.drewN _) a).mono ?_;rintro e w' ⟨rfl,v,rfl⟩))
    go_end0;exact⟨rfl,q,j,t,n.out.trans c.out,λ_=>beq_iff_eq.1 hc,f.out.drewN _,o.out.drewN _⟩
  ·have y:((q:Int)==(s.size:Int))=true:=by simp;omega
   have c:Hid (Px.skip true (L s q)=Px.skip false (L s q)):=qrs s q (by omega);go_wp2_with (first|(go_at_call 87;refine(qai b s q d _ f.out).mono ?_;rintro e w' ⟨rfl,r,rfl⟩))
   go_end0;exact⟨rfl,q,j,t,n.out.trans c.out,λh=>absurd h a,(f.out.drewN _),(o.out.drewN _)⟩
theorem qid(s:BA)(q:Nat)(h:q<s.size)(a:(s[q].toNat:Int)=32\/(s[q].toNat:Int)=10):Px.skip false (L s q)=Px.skip false (L s (q+1)):=by
 rw[qgq s q h,Px.skip,if_pos (by omega)]
theorem qkn(s:BA)(q:Nat)(h:q<s.size)(a:(s[q].toNat:Int)=59):Px.skip false (L s q)=Px.skip true (L s q):=by
 have e:s[q].toNat=59:=by omega
 rw[qgq s q h,Px.skip,Px.skip,if_neg (by omega),if_pos e,if_neg (by omega)]
theorem qrr(s:BA)(q:Nat)(h:q<s.size)(a:(s[q].toNat:Int)≠32)(b:(s[q].toNat:Int)≠10)(c:(s[q].toNat:Int)≠59):Px.skip false (L s q)=L s q:=by
 rw[qgq s q h,Px.skip,if_neg (by omega),if_neg (by omega)]
theorem qvf(s:BA)(q:Nat)(h:s.size<=q):Px.skip false (L s q)=L s q:=by
 rw[qkb s q h];rfl
theorem qbc(b:Nat)(s:BA)(p d:Nat)(w:Wd)(h:Rd b s p d w)(E:p<=s.size)(F:s.size<=1200):
  Calls prog 86 #[.pointer (some ⟨b,0,none⟩)] w λe w'=>e=.returned (.tuple #[])/\∃q,p<=q/\q<=s.size/\Px.skip false (L s p)=L s q/\Rd b s q d w'/\Only b w w':=by
 go_enter func86,ntmps86
 go_wp2;go_loopw [] (λwr=>∃q,p<=q/\q<=s.size/\Px.skip false (L s p)=Px.skip false (L s q)/\Rd b s q d wr/\Only b w wr) (λwr=>s.size-qdi b wr)
 case atStart=>exact⟨p,eR _,E,rfl,h,Only.refl _ _⟩
 case round=>
  obtain⟨q,o,y,r,n,D⟩:=hrel;have t:Hid (Px.skip false (L s p)=Px.skip false (L s q)):=r;clear r;have I:=n.c0;have J:=n.c1;have K:=n.fz 1;have c:Hid (Rd b s q d wr):=n;have u:Hid (Only b w wr):=D;have i:qdi b wr=q:=n.pos;have f:Hid (qdi b wr=q):=i;clear n D i h;by_cases g:q<s.size
  ·have G:((q:Int)==(s.size:Int))=false:=by simp;omega
   cases c32:((s[q].toNat:Int)==32)
   ·cases c10:((s[q].toNat:Int)==10)
    ·cases c59:((s[q].toNat:Int)==59)
     ·have a:Hid (Px.skip false (L s q)=L s q):=qrr s q g (beq_eq_false_iff_ne.1 c32) (beq_eq_false_iff_ne.1 c10) (beq_eq_false_iff_ne.1 c59);go_wp2_with (first|(go_at_call 87;refine(qai b s q d _ c.out).mono ?_;rintro e w' ⟨rfl,k,rfl⟩))
      go_quiet (fail)
      go_wp2_with (first|(go_at_call 87;refine(qai b s q d _ c.out).mono ?_;rintro e w' ⟨rfl,k,rfl⟩))
      refine bodyPost_ret (results_none rfl _ _ _) rfl ?_;exact⟨rfl,q,o,y,t.out.trans a.out,c.out.drewN _,u.out.drewN _⟩
     ·have a:Hid (Px.skip false (L s q)=Px.skip true (L s q)):=qkn s q g (beq_iff_eq.1 c59);go_wp2_with (first|(go_at_call 87;refine(qai b s q d _ c.out).mono ?_;rintro e w' ⟨rfl,k,rfl⟩))
      go_quiet (fail)
      go_wp2_with (first|(go_at_call 146;refine(qgx b s q d _ (c.out.drewN _) y F).mono ?_;rintro e w' ⟨rfl,q',H,z,j,v,l,x⟩;refine Hid.out ?_))
      have hne:q<q':=by
       rcases Nat.lt_or_ge q q' with h'|h'
       ·exact h'
       ·exfalso;have e:q'=q:=by omega
        subst e;have e1:=v g;rw[e1]at c59;exact absurd c59 (by decide)
      have A:Hid (Px.skip true (L s q)=Px.skip false (L s q')):=j;have m:Hid (qdi b w'=q'):=l.pos;have B:Hid (Rd b s q' d w'):=l;have C:Hid (Only b w w'):=(u.out.drewN _).trans x;clear j l x v;refine hZ ?_;go_wp2;go_roundw
      case rel=>exact⟨q',by omega,z,t.out.trans (a.out.trans A.out),B.out,C.out⟩
      case measure=>
       have e1:=f.out;have e2:=m.out;rw[e1,e2];omega
    ·have a:Hid (Px.skip false (L s q)=Px.skip false (L s (q+1))):=qid s q g (.inr (beq_iff_eq.1 c10));go_wp2_with (first|(go_at_call 87;refine(qai b s q d _ c.out).mono ?_;rintro e w' ⟨rfl,k,rfl⟩))
     go_quiet (fail)
     go_wp2;go_roundw
     case rel=>exact⟨q+1,by omega,by omega,t.out.trans a.out,(c.out.drewN _).set1 _ _ (by omega),(u.out.drewN _).set _ _⟩
     case measure=>
      have e1:=f.out;have e2:=((c.out.drewN (k+nq)).set1 (q+1) ((q:Int)+1) (by omega)).pos;rw[e1,e2];omega
   ·have a:Hid (Px.skip false (L s q)=Px.skip false (L s (q+1))):=qid s q g (.inl (beq_iff_eq.1 c32));go_wp2_with (first|(go_at_call 87;refine(qai b s q d _ c.out).mono ?_;rintro e w' ⟨rfl,k,rfl⟩))
    go_quiet (fail)
    go_wp2;go_roundw
    case rel=>exact⟨q+1,by omega,by omega,t.out.trans a.out,(c.out.drewN _).set1 _ _ (by omega),(u.out.drewN _).set _ _⟩
    case measure=>
     have e1:=f.out;have e2:=((c.out.drewN (k+nq)).set1 (q+1) ((q:Int)+1) (by omega)).pos;rw[e1,e2];omega
  ·have G:((q:Int)==(s.size:Int))=true:=by simp;omega
   have a:Hid (Px.skip false (L s q)=L s q):=qvf s q (by omega);go_wp2_with (first|(go_at_call 87;refine(qai b s q d _ c.out).mono ?_;rintro e w' ⟨rfl,k,rfl⟩))
   go_end0;exact⟨rfl,q,o,y,t.out.trans a.out,c.out.drewN _,u.out.drewN _⟩
end Rd
end
section
namespace Rd
open Go.RowKit
theorem _root_.Go.RowKit.Below.drewN'{B:Nat}{a w:Wd}(h:Below B a w)(n:Nat):Below B a (w.drewN n):=⟨h.os,h.tape,h.output,h.size,h.block⟩
theorem q1n{B:Nat}{a w:Wd}{g o:Nat}{v:Vu}(h:Below B a w)(b:B<=g):Below B a (w.setCell ⟨g,o,none⟩ v):=h.setCell (p:=⟨g,o,none⟩) b v
theorem B6{B:Nat}{a w:Wd}{g:Nat}(h:Below B a w)(b:B<=g)(v0 v1 v2 v3 v4 v5:Vu):Below B a ((((((w.setCell ⟨g,0,none⟩ v0).setCell ⟨g,1,none⟩ v1).setCell ⟨g,2,none⟩ v2).setCell ⟨g,3,none⟩ v3).setCell ⟨g,4,none⟩ v4).setCell ⟨g,5,none⟩ v5):=
 q1n (q1n (q1n (q1n (q1n (q1n h b) b) b) b) b) b
theorem qtf(w:Wd)(g k:Nat)(a:k≠g)(v0 v1 v2 v3 v4 v5:Vu):((((((w.setCell ⟨g,0,none⟩ v0).setCell ⟨g,1,none⟩ v1).setCell ⟨g,2,none⟩ v2).setCell ⟨g,3,none⟩ v3).setCell ⟨g,4,none⟩ v4).setCell ⟨g,5,none⟩ v5).heap[k]? =w.heap[k]?:=by
 rw[Below.heap_setCell _ _ _ _ a,Below.heap_setCell _ _ _ _ a,Below.heap_setCell _ _ _ _ a,Below.heap_setCell _ _ _ _ a,Below.heap_setCell _ _ _ _ a,Below.heap_setCell _ _ _ _ a]
structure Box (g:Nat) (w:Wd):Prop where
 c0:∃v,w.cell? ⟨g,0,none⟩=some v
 c1:∃v,w.cell? ⟨g,1,none⟩=some v
 c2:∃v,w.cell? ⟨g,2,none⟩=some v
 c3:∃v,w.cell? ⟨g,3,none⟩=some v
 c4:∃v,w.cell? ⟨g,4,none⟩=some v
 c5:∃v,w.cell? ⟨g,5,none⟩=some v
 fz:∀o,w.frozen? ⟨g,o,none⟩=false
theorem Box.of{g:Nat}{w:Wd}{v0 v1 v2 v3 v4 v5:Vu}(h:w.heap[g]? =some (.cells #[v0,v1,v2,v3,v4,v5] 134 (0,0))):Box g w:=
 ⟨⟨v0,by simp[World.cell?,h]⟩,⟨v1,by simp[World.cell?,h]⟩,⟨v2,by simp[World.cell?,h]⟩,⟨v3,by simp[World.cell?,h]⟩,⟨v4,by simp[World.cell?,h]⟩,⟨v5,by simp[World.cell?,h]⟩,λo=>by simp[World.frozen?,h]⟩
theorem qj5(w:Wd)(a o2:Obj)(n:Nat):Below w.heap.size w (((w.alloc a).alloc o2).drewN n):=
 (((Below.refl _ _).alloc (eR _) _).alloc (by simp) _).drewN' _
structure El where
 k:Int
 n:Int
 tr:Bool
 tx:BA
 m:Int
 a:OA
 len:Nat
 cap:Nat
abbrev El.v(e:El):Vu:=.agg #[.int .i64 e.k,.int .i64 e.n,.bool e.tr,.string e.tx,.int .i64 e.m,.slice e.a e.len e.cap]
abbrev El.nil:El:=⟨0,0,false,⟨#[]⟩,0,none,0,0⟩
theorem qf6(a:BA)(w:Wd):
  Calls prog 239 #[.string a] w λe w'=>e=.returned (El.v ⟨3,0,false,a,0,none,0,0⟩)/\Below w.heap.size w w':=by
 go_enter func239,ntmps239
 go_wp2;exact bodyPost_ret (v:=El.v ⟨3,0,false,a,0,none,0,0⟩) (by simp[results,results239,go_sem]) rfl ⟨rfl,(Below.refl _ _).alloc (eR _) _⟩
theorem qf7(a:BA)(w:Wd):
  Calls prog 241 #[.string a] w λe w'=>e=.returned (El.v ⟨2,0,false,a,0,none,0,0⟩)/\Below w.heap.size w w':=by
 go_enter func241,ntmps241
 go_wp2;exact bodyPost_ret (v:=El.v ⟨2,0,false,a,0,none,0,0⟩) (by simp[results,results241,go_sem]) rfl ⟨rfl,(Below.refl _ _).alloc (eR _) _⟩
theorem qg7(b:Bool)(w:Wd):
  Calls prog 243 #[.bool b] w λe w'=>e=.returned (El.v ⟨1,0,b,⟨#[]⟩,0,none,0,0⟩)/\Below w.heap.size w w':=by
 go_enter func243,ntmps243
 go_wp2;exact bodyPost_ret (v:=El.v ⟨1,0,b,⟨#[]⟩,0,none,0,0⟩) (by simp[results,results243,go_sem]) rfl ⟨rfl,(Below.refl _ _).alloc (eR _) _⟩
theorem qf8(n:Int)(w:Wd):
  Calls prog 248 #[.int .i64 n] w λe w'=>e=.returned (El.v ⟨0,n,false,⟨#[]⟩,0,none,0,0⟩)/\Below w.heap.size w w':=by
 go_enter func248,ntmps248
 go_wp2;exact bodyPost_ret (v:=El.v ⟨0,n,false,⟨#[]⟩,0,none,0,0⟩) (by simp[results,results248,go_sem]) rfl ⟨rfl,(Below.refl _ _).alloc (eR _) _⟩
theorem new2(w:Wd)(a o2:Obj):((w.alloc a).alloc o2).heap[w.heap.size+1]? =some o2:=by
 have:=eN (w.alloc a) o2
 rwa [show(w.alloc a).heap.size=w.heap.size+1 from by simp]at this
theorem qbn(c p:Int)(w:Wd):
  Calls prog 147 #[.int .i64 c,.int .i64 p] w λe w'=>∃N,e=.returned (.tuple #[El.nil.v,.pointer (some ⟨N,0,none⟩)])/\w.heap.size<=N/\w'.heap[N]? =some (.cells #[.int .i64 c,.int .i64 p] 126 (0,0))/\Below w.heap.size w w':=by
 go_enter func147,ntmps147
 go_wp2;exact bodyPost_ret (v:=.tuple #[El.nil.v,.pointer (some ⟨w.heap.size+1,0,none⟩)]) (by simp[results,results147,go_sem]) rfl ⟨_,rfl,by omega,new2 _ _ _,((Below.refl _ _).alloc (eR _) _).alloc (by simp) _⟩
theorem qw9(c:UInt8):Px.digB c=(decide (48<=(c.toNat:Int))&&decide ((c.toNat:Int)<=57)):=by
 unfold Px.digB;rw[Bool.eq_iff_iff];simp;omega
theorem qeq(c:UInt8)(w:Wd):
  Calls prog 244 #[.int .u8 (c.toNat:Int)] w λe w'=>e=.returned (.bool (Px.digB c))/\w'=w:=by
 rw[qw9];go_enter func244,ntmps244
 go_wp2;all_goals go_ret
 all_goals exact⟨by simp[*] <;> omega,rfl⟩
theorem qu6(c:UInt8):Px.strB c=(decide (32<=(c.toNat:Int))&&decide ((c.toNat:Int)<=126)&&!((c.toNat:Int)==34)&&!((c.toNat:Int)==92)):=by
 unfold Px.strB;rw[Bool.eq_iff_iff];simp;omega
theorem qbs(c:UInt8)(w:Wd):
  Calls prog 240 #[.int .u8 (c.toNat:Int)] w λe w'=>e=.returned (.bool (Px.strB c))/\w'=w:=by
 rw[qu6];go_enter func240,ntmps240
 go_wp2;all_goals go_ret
 all_goals refine⟨?_,rfl⟩
 all_goals simp[*]
 all_goals first|omega|rfl
theorem qw8:∀n:Fin 256,decide (0<=Lib.indexByte [32,10,40,41,39,34,59] (UInt8.ofNat n.val))=Px.endB (UInt8.ofNat n.val):=by decide+kernel
theorem qw7(c:UInt8):decide (0<=Lib.indexByte [32,10,40,41,39,34,59] c)=Px.endB c:=by
 have:=qw8 ⟨c.toNat,c.toNat_lt⟩;simpa using this
theorem qb8(c:UInt8)(w:Wd):
  Calls prog 299 #[.int .u8 (c.toNat:Int)] w λe w'=>e=.returned (.bool (Px.endB c))/\w'=w:=by
 rw[<-qw7];go_enter func299,ntmps299
 go_wp2_with (go_at_call 245;refine(Tryz.strings_IndexByte _ _ _).mono ?_;rintro e w' ⟨rfl,rfl⟩)
 go_ret;exact⟨by simp,rfl⟩
theorem qre:∀n:Fin 256,Px.wordB (UInt8.ofNat n.val)=(decide (97<=n.val/\n.val<=122)||Px.digB (UInt8.ofNat n.val)||decide (0<=Lib.indexByte [43,45,42,47,60,62,61,63,33,95,46,58] (UInt8.ofNat n.val))):=by decide+kernel
theorem qrd(c:UInt8):Px.wordB c=(decide (97<=c.toNat/\c.toNat<=122)||Px.digB c||decide (0<=Lib.indexByte [43,45,42,47,60,62,61,63,33,95,46,58] c)):=by
 have:=qre ⟨c.toNat,c.toNat_lt⟩;simpa using this
theorem qba(c:UInt8)(w:Wd):
  Calls prog 153 #[.int .u8 (c.toNat:Int)] w λe w'=>e=.returned (.bool (Px.wordB c))/\w'=w:=by
 have a:Hid (Px.wordB c=(decide (97<=c.toNat/\c.toNat<=122)||Px.digB c||decide (0<=Lib.indexByte [43,45,42,47,60,62,61,63,33,95,46,58] c))):=qrd c;cases hd:Px.digB c;all_goals
  go_enter func153,ntmps153
  go_wp2_with (first|(go_at_call 244;refine(qeq c _).mono ?_;rintro e w' ⟨rfl,rfl⟩)|(go_at_call 245;refine(Tryz.strings_IndexByte _ _ _).mono ?_;rintro e w' ⟨rfl,rfl⟩))
  all_goals go_ret
  all_goals refine⟨?_,rfl⟩
  all_goals rw[a.out]
  all_goals simp[*]
  all_goals first|omega|(rw[Bool.eq_iff_iff];simp;omega)
theorem qdf(b:Nat)(s:BA)(p d:Nat)(x:El)(w:Wd)(h:Rd b s p d w)(f:∀c:p<s.size,Px.endB s[p]=true)(l:p<=s.size):
  Calls prog 242 #[.pointer (some ⟨b,0,none⟩),x.v] w λe w'=>e=.returned (.tuple #[x.v,.pointer none])/\Below w.heap.size w w':=by
 obtain⟨k,n,g,i,m,a,len,cap⟩:=x;have q:=h.c0;have r:=h.c1;have j:Hid (Rd b s p d w):=h;have t:=h.lt;clear h;by_cases c:p<s.size
 ·have o:((p:Int)==(s.size:Int))=false:=by simp;omega
  have u:=f c;clear f;go_enter func242,ntmps242
  go_wp2;go_quiet ((first|(go_at_call 87;exact Calls.quiet_of (qai b s p d _ (((j.out.alloc _).alloc _).drewN _)))|(go_at_call 299;exact Calls.quiet_of_same (qb8 _ _))))
  go_wp2;refine bodyPost_ret (v:=.tuple #[El.v ⟨k,n,g,i,m,a,len,cap⟩,.pointer none]) (by simp[results,results242,go_sem]) rfl ⟨rfl,B6 (qj5 _ _ _ _) (by omega) _ _ _ _ _ _⟩
 ·have o:((p:Int)==(s.size:Int))=true:=by simp;omega
  clear f;go_enter func242,ntmps242
  go_wp2;go_quiet ((first|(go_at_call 87;exact Calls.quiet_of (qai b s p d _ (((j.out.alloc _).alloc _).drewN _)))|(go_at_call 299;exact Calls.quiet_of_same (qb8 _ _))))
  go_wp2;refine bodyPost_ret (v:=.tuple #[El.v ⟨k,n,g,i,m,a,len,cap⟩,.pointer none]) (by simp[results,results242,go_sem]) rfl ⟨rfl,B6 (qj5 _ _ _ _) (by omega) _ _ _ _ _ _⟩
theorem qec(b:Nat)(s:BA)(p d:Nat)(x:El)(w:Wd)(h:Rd b s p d w)(o:p<s.size)(y:Px.endB s[p]=false):
  Calls prog 242 #[.pointer (some ⟨b,0,none⟩),x.v] w λe w'=>∃N,e=.returned (.tuple #[El.nil.v,.pointer (some ⟨N,0,none⟩)])/\w.heap.size<=N/\w'.heap[N]? =some (.cells #[.int .i64 2,.int .i64 p] 126 (0,0))/\Below w.heap.size w w':=by
 obtain⟨k,n,z,A,m,a,len,cap⟩:=x;have B:=h.c0;have C:=h.c1;have q:Hid (Rd b s p d w):=h;have D:=h.lt;clear h;have E:((p:Int)==(s.size:Int))=false:=by simp;omega
 go_enter func242,ntmps242
 go_wp2;go_quiet ((first|(go_at_call 87;exact Calls.quiet_of (qai b s p d _ (((q.out.alloc _).alloc _).drewN _)))|(go_at_call 299;exact Calls.quiet_of_same (qb8 _ _))))
 go_wp2_with (go_at_call 147;refine(qbn _ _ _).mono ?_;rintro e w' ⟨N,rfl,j,c,f⟩;refine Hid.out ?_)
 refine hZ ?_;have r:w.heap.size+2<=N:=by simpa using j
 have g:Below w.heap.size w w':=(qj5 w _ _ nq).trans (f.mono (by simp;omega));have l:N<w'.heap.size:=(eE.1 c).1;have t:Hid (w'.heap[N]? =some (Obj.cells #[Value.int IntKind.i64 2,Value.int IntKind.i64 ↑p] 126)):=c;have i:Hid (Below w.heap.size w w'):=g;have u:Box (w.heap.size+1) w':=Box.of (by rw[f.block _ (by simp)];exact new2 _ _ _);obtain⟨⟨F,G⟩,⟨H,I⟩,⟨J,K⟩,⟨L,M⟩,⟨O,P⟩,⟨Q,R⟩,S⟩:=u;clear j c f g;go_wp2;exact bodyPost_ret (v:=.tuple #[El.nil.v,.pointer (some ⟨N,0,none⟩)]) (by simp[results,results242,go_sem, *]) rfl ⟨N,rfl,by omega,by rw[qtf _ _ _ (by omega)];exact t.out,B6 i.out (by omega) _ _ _ _ _ _⟩
end Rd
end
section
namespace Rd
open Go.RowKit
def El.cells(e:El):List Vu:=[.int .i64 e.k,.int .i64 e.n,.bool e.tr,.string e.tx,.int .i64 e.m,.slice e.a e.len e.cap]
abbrev El.sl(e:El):Vu:=.slice e.a e.len e.cap
abbrev NoB:Nat->Prop:=λ_=>False
structure Row (lo:Nat) (own:Nat->Prop) (w:Wd) (e:El) (es:List El):Prop where
 len:es.length=e.len
 owns:w.ownsRow lo 134 6 e.sl e.len (es.flatMap El.cells)
 far:∀g,own g->e.sl.ownBlock≠some g
def Rep(lo:Nat)(own:Nat->Prop)(w:Wd):Nat->El->Dt->Prop
 |0,_,_=>False
 |m+1,e,t=>
  (e.k=0/\t=.num e.n/\-9223372036854775808<=e.n/\e.n<=9223372036854775807/\e.len=0/\e.tr=false/\e.tx=⟨#[]⟩)\/(e.k=1/\t=.bool e.tr/\e.len=0/\e.n=0/\e.tx=⟨#[]⟩)\/(e.k=2/\t=.str e.tx.data.toList/\e.len=0/\e.n=0/\e.tr=false)\/(e.k=3/\t=.sym e.tx.data.toList e.m/\e.len=0)\/
  (e.k=4/\∃(es:List El) (ts:List Dt),t=.list ts/\es.length=ts.length/\Row lo own w e es/\∀(i:Nat) (x:El) (u:Dt),es[i]? =some x->ts[i]? =some u->Rep lo own w m x u)
theorem qfg{w:Wd}{lo a:Nat}{e:TypeId}{z:Nat}{v:Vu}{n:Nat}{xs:List Vu}(h:w.ownsRow lo e z v n xs)(c:a<=lo):w.ownsRow a e z v n xs:=by
 refine⟨h.1,?_⟩;rcases h.2 with h|⟨g,cap,b,d,f,r⟩
 ·exact .inl h
 ·exact .inr ⟨g,cap,b,d,eT c f,r⟩
theorem Row.kept{lo:Nat}{own:Nat->Prop}{row:Option Nat}{w w':Wd}{e:El}{es:List El}(h:Row lo own w e es)(a:w.grownBy w' row)(b:∀g,row=some g->g<lo\/own g):Row lo own w' e es:=by
 refine⟨h.len,h.owns.kept a ?_,h.far⟩;cases hv:e.sl.ownBlock with
 |none=>exact .inl rfl
 |some k=>
  right;intro c;have d:=h.owns.lt k hv;rcases b k c.symm with h2|h2
  ·omega
  ·exact h.far k h2 hv
theorem Rep.kept{lo:Nat}{own:Nat->Prop}{row:Option Nat}{w w':Wd}(c:w.grownBy w' row)(d:∀g,row=some g->g<lo\/own g):
  ∀{m:Nat} {e:El} {t:Dt},Rep lo own w m e t->Rep lo own w' m e t
 |0,_,_,h=>False.elim h
 |m+1,e,t,h=>by
  rcases h with h|h|h|h|⟨f,es,j,k,l,a,b⟩
  ·exact .inl h
  ·exact .inr (.inl h)
  ·exact .inr (.inr (.inl h))
  ·exact .inr (.inr (.inr (.inl h)))
  ·exact .inr (.inr (.inr (.inr ⟨f,es,j,k,l,a.kept c d,λi x u n o=>Rep.kept c d (b i x u n o)⟩)))
theorem Rep.turn{lo c:Nat}{own b:Nat->Prop}{w:Wd}(d:c<=lo)(j:∀g,b g->own g\/w.heap.size<=g\/g<lo):
  ∀{m:Nat} {e:El} {t:Dt},Rep lo own w m e t->Rep c b w m e t
 |0,_,_,h=>False.elim h
 |m+1,e,t,h=>by
  rcases h with h|h|h|h|⟨n,es,o,p,q,a,f⟩
  ·exact .inl h
  ·exact .inr (.inl h)
  ·exact .inr (.inr (.inl h))
  ·exact .inr (.inr (.inr (.inl h)))
  ·refine .inr (.inr (.inr (.inr ⟨n,es,o,p,q,⟨a.len,qfg a.owns d,λg r k=>?_⟩,λi x u l h2=>Rep.turn d j (f i x u l h2)⟩)));have l:=a.owns.lt g k;rcases j g r with h2|h2|h2
   ·exact a.far g h2 k
   ·omega
   ·omega
def Res(b:Nat)(s:BA)(d:Nat)(r:Py.R)(w:Wd)(e:En)(w':Wd):Prop:=
 Only b w w'/\
 match r with
 | .inl (c,k)=>∃N,e=.returned (.tuple #[El.nil.v,.pointer (some ⟨N,0,none⟩)])/\w.heap.size<=N/\w'.heap[N]? =some (.cells #[.int .i64 (c:Int),.int .i64 ((s.size-k:Nat):Int)] 126 (0,0))/\∃p',Rd b s p' d w'
 | .inr (ts,r)=>∃(x:El) (t:Dt),ts=[t]/\e=.returned (.tuple #[x.v,.pointer none])/\Rep w.heap.size NoB w' (32-d) x t/\Rd b s (s.size-r.length) d w'
abbrev quu(w:Wd)(g:Nat)(v0 v1 v2 v3 v4 v5:Vu):Wd:=(((((w.setCell ⟨g,0,none⟩ v0).setCell ⟨g,1,none⟩ v1).setCell ⟨g,2,none⟩ v2).setCell ⟨g,3,none⟩ v3).setCell ⟨g,4,none⟩ v4).setCell ⟨g,5,none⟩ v5
theorem qce(w:Wd)(g:Nat)(v0 v1 v2 v3 v4 v5:Vu):w.grownBy (quu w g v0 v1 v2 v3 v4 v5) (some g):=
 ((((((Only.refl g w).set 0 v0).set 1 v1).set 2 v2).set 3 v3).set 4 v4).set 5 v5
theorem Only.new{b g:Nat}{w w' w2:Wd}(h:Only b w w')(a:w'.grownBy w2 (some g))(d:w.heap.size<=g):Only b w w2:=
 ⟨a.os.trans h.os,a.tape.trans h.tape,a.output.trans h.output,eT h.size a.size,λi c hne=>(a.block i (eW c h.size) (by intro e;cases e;omega)).trans (h.block i c hne)⟩
theorem Only.of{b:Nat}{w w1 w2:Wd}(h:Only b w w1)(k:Below w1.heap.size w1 w2):Only b w w2:=
 ⟨k.os.trans h.os,k.tape.trans h.tape,k.output.trans h.output,eT h.size k.size,λi a c=>(k.block i (eW a h.size)).trans (h.block i a c)⟩
theorem Rd.kept{b:Nat}{s:BA}{p d:Nat}{w w':Wd}{row:Option Nat}(h:Rd b s p d w)(a:w.grownBy w' row)(hne:some b≠row):Rd b s p d w':=by
 have:=h.lt;unfold Rd at*;rw[a.block b this hne];exact h
theorem Rd.below{b:Nat}{s:BA}{p d B:Nat}{w w':Wd}(h:Rd b s p d w)(a:Below B w w')(c:b<B):Rd b s p d w':=by
 unfold Rd at*;rw[a.block b c];exact h
theorem Box.below{g B:Nat}{w w':Wd}(h:Box g w)(a:Below B w w')(b:g<B):Box g w':=by
 have e:∀o,w'.cell? ⟨g,o,none⟩=w.cell? ⟨g,o,none⟩:=λo=>a.cell (p:=⟨g,o,none⟩) b
 have f:∀o,w'.frozen? ⟨g,o,none⟩=w.frozen? ⟨g,o,none⟩:=λo=>a.frozen (p:=⟨g,o,none⟩) b
 obtain⟨c0,c1,c2,c3,c4,c5,fz⟩:=h;exact⟨by rw[e];exact c0,by rw[e];exact c1,by rw[e];exact c2,by rw[e];exact c3,by rw[e];exact c4,by rw[e];exact c5,λo=>by rw[f];exact fz o⟩
theorem Box.new(w:Wd)(v0 v1 v2 v3 v4 v5:Vu):Box w.heap.size (w.alloc (.cells #[v0,v1,v2,v3,v4,v5] 134 (0,0))):=Box.of (eN w _)
theorem Box.set{g b o:Nat}{w:Wd}(h:Box g w)(hne:g≠b)(v:Vu):Box g (w.setCell ⟨b,o,none⟩ v):=by
 have a:=Below.heap_setCell w ⟨b,o,none⟩ v g hne;have e:∀o',(w.setCell ⟨b,o,none⟩ v).cell? ⟨g,o',none⟩=w.cell? ⟨g,o',none⟩:=λo'=>World.cell?_of_block (w:=w) a
 have f:∀o',(w.setCell ⟨b,o,none⟩ v).frozen? ⟨g,o',none⟩=w.frozen? ⟨g,o',none⟩:=λo'=>World.frozen?_of_block (w:=w) a
 obtain⟨c0,c1,c2,c3,c4,c5,fz⟩:=h;exact⟨by rw[e];exact c0,by rw[e];exact c1,by rw[e];exact c2,by rw[e];exact c3,by rw[e];exact c4,by rw[e];exact c5,λo=>by rw[f];exact fz o⟩
theorem Box.drewN{g:Nat}{w:Wd}(h:Box g w)(n:Nat):Box g (w.drewN n):=⟨h.c0,h.c1,h.c2,h.c3,h.c4,h.c5,h.fz⟩
theorem Box.new1(w:Wd)(a:Addr)(u v0 v1 v2 v3 v4 v5:Vu):Box w.heap.size ((w.setCell a u).alloc (.cells #[v0,v1,v2,v3,v4,v5] 134 (0,0))):=by
 have:=Box.new (w.setCell a u) v0 v1 v2 v3 v4 v5
 rwa [show(w.setCell a u).heap.size=w.heap.size from by simp]at this
theorem Box.kept{g:Nat}{w w':Wd}{row:Option Nat}(h:Box g w)(c:w.grownBy w' row)(hne:some g≠row)(a:g<w.heap.size):Box g w':=by
 have b:=c.block g a hne;have e:∀o',w'.cell? ⟨g,o',none⟩=w.cell? ⟨g,o',none⟩:=λo'=>World.cell?_of_block (w:=w) b
 have f:∀o',w'.frozen? ⟨g,o',none⟩=w.frozen? ⟨g,o',none⟩:=λo'=>World.frozen?_of_block (w:=w) b
 obtain⟨c0,c1,c2,c3,c4,c5,fz⟩:=h;exact⟨by rw[e];exact c0,by rw[e];exact c1,by rw[e];exact c2,by rw[e];exact c3,by rw[e];exact c4,by rw[e];exact c5,λo=>by rw[f];exact fz o⟩
theorem Box.new2(w:Wd)(a b:Addr)(u c v0 v1 v2 v3 v4 v5:Vu):Box w.heap.size (((w.setCell a u).setCell b c).alloc (.cells #[v0,v1,v2,v3,v4,v5] 134 (0,0))):=by
 have:=Box.new ((w.setCell a u).setCell b c) v0 v1 v2 v3 v4 v5
 rwa [show((w.setCell a u).setCell b c).heap.size=w.heap.size from by simp]at this
theorem Res.err{b:Nat}{s:BA}{d c k N g:Nat}{w w':Wd}{z i:Int}(l:Only b w w')(m:w.heap.size<=g)(a:w.heap.size<=N)(f:N≠g)
  (n:w'.heap[N]? =some (.cells #[.int .i64 z,.int .i64 i] 126 (0,0)))(o:z=(c:Int))(h:i=((s.size-k:Nat):Int)){j:Nat}(p:Rd b s j d w')(q:b<w.heap.size)(v0 v1 v2 v3 v4 v5:Vu):
  Res b s d (.inl (c,k)) w (.returned (.tuple #[El.nil.v,.pointer (some ⟨N,0,none⟩)])) (quu w' g v0 v1 v2 v3 v4 v5):=by
 subst o;subst h;exact⟨l.new (qce _ _ _ _ _ _ _ _) m,N,rfl,a,by rw[qtf _ _ _ f];exact n,j,p.kept (qce _ _ _ _ _ _ _ _) (by intro e;cases e;omega)⟩
theorem Res.ok{b:Nat}{s:BA}{d p g lo:Nat}{w w':Wd}{x:El}{t:Dt}{r:List UInt8}(c:Only b w w')(f:w.heap.size<=g)(a:g<lo)(l:b<w.heap.size)
  (i:Rep lo NoB w' (32-d) x t)(j:Rd b s p d w')(k:p=s.size-r.length)(v0 v1 v2 v3 v4 v5:Vu):
  Res b s d (.inr ([t],r)) w (.returned (.tuple #[x.v,.pointer none])) (quu w' g v0 v1 v2 v3 v4 v5):=by
 subst k;refine⟨c.new (qce _ _ _ _ _ _ _ _) f,x,t,rfl,rfl,Rep.turn (lo:=lo) (own:=NoB) (by omega) (λg h=>by cases h) (Rep.kept (qce _ _ _ _ _ _ _ _) (λm h=>by cases h;exact .inl a) i),j.kept (qce _ _ _ _ _ _ _ _) (by intro e;cases e;omega)⟩
theorem Res.alloc{b:Nat}{s:BA}{d:Nat}{r:Py.R}{w w':Wd}{e:En}(h:Res b s d r w e w')(o:Obj):Res b s d r w e (w'.alloc o):=by
 rcases r with⟨c,k⟩|⟨q,u⟩
 ·obtain⟨f,N,i,j,m,n,l⟩:=h;exact⟨f.alloc o,N,i,j,by rw[eH _ _ _ (eE.1 m).1];exact m,n,l.alloc o⟩
 ·obtain⟨f,x,t,p,i,a,l⟩:=h;exact⟨f.alloc o,x,t,p,i,Rep.kept (World.grownBy_alloc w' o none) (λg h=>by cases h) a,l.alloc o⟩
end Rd
end
section
namespace Rd
open Go.RowKit
theorem qcq(s:BA)(q:Nat)(t:Dt)(h:∀a:q<s.size,Px.endB s[q]=true):Py.closed t (L s q)=.inr ([t],L s q):=by
 by_cases a:q<s.size
 ·rw[qgq s q a];simp[Py.closed,h a]
 ·rw[qkb s q (by omega)];rfl
theorem qdo(s:BA)(q:Nat)(t:Dt)(a:q<s.size)(h:Px.endB s[q]=false):Py.closed t (L s q)=.inl (2,s.size-q):=by
 rw[qgq s q a];simp[Py.closed,h,qc6];omega
theorem qrh(s:BA)(p:Nat)(h:p+1=s.size):Py.truth (L s (p+1))=.inl (2,s.size-p):=by
 rw[qkb s (p+1) (by omega)];simp[Py.truth];omega
theorem qyl(s:BA)(p:Nat)(h:p+1<s.size)(a:((s[p+1].toNat:Int)==116)=true):Py.truth (L s (p+1))=Py.closed (.bool true) (L s (p+2)):=by
 have:=beq_iff_eq.1 a;rw[qgq s (p+1) h,Py.truth,if_pos (by omega)]
theorem qym(s:BA)(p:Nat)(h:p+1<s.size)(a:((s[p+1].toNat:Int)==116)=false)(b:((s[p+1].toNat:Int)==102)=true):Py.truth (L s (p+1))=Py.closed (.bool false) (L s (p+2)):=by
 have:=beq_iff_eq.1 b;have:=beq_eq_false_iff_ne.1 a;rw[qgq s (p+1) h,Py.truth,if_neg (by omega),if_pos (by omega)]
theorem qu3(s:BA)(p:Nat)(h:p+1<s.size)(a:((s[p+1].toNat:Int)==116)=false)(b:((s[p+1].toNat:Int)==102)=false):Py.truth (L s (p+1))=.inl (2,s.size-p):=by
 have:=beq_eq_false_iff_ne.1 b;have:=beq_eq_false_iff_ne.1 a;rw[qgq s (p+1) h,Py.truth,if_neg (by omega),if_neg (by omega),qc6];congr 2;omega
theorem qri(b:Nat)(s:BA)(p d:Nat)(w:Wd)(h:Rd b s p d w)(hp:p<s.size)(hs:s.size<=1200)(a0:d<=30):
  Calls prog 152 #[.pointer (some ⟨b,0,none⟩)] w λe w'=>Res b s d (Py.truth (L s (p+1))) w e w':=by
 have h1:=h.c1;have hf:=h.fz 1;have hb:=h.lt;have n:Hid (Rd b s p d w):=h;clear h;by_cases j:p+1<s.size
 ·cases ct:((s[p+1].toNat:Int)==116)
  ·cases cf:((s[p+1].toNat:Int)==102)
   ·have A:Hid (Py.truth (L s (p+1))=.inl (2,s.size-p)):=qu3 s p j ct cf;go_enter func152,ntmps152
    go_wp2_with (first|(go_at_call 237;refine(qb4 b s (p+1) d _ _ (by first|exact(n.out.set1 (p+1) _ (by omega)).alloc _|exact((n.out.set1 (p+1) _ (by omega)).alloc _).drewN _) j).mono ?_;rintro e w' ⟨rfl,V,rfl⟩)|(go_at_call 147;refine(qbn _ _ _).mono ?_;rintro e w' ⟨N,rfl,B,f,c⟩;refine Hid.out ?_))
    have W:w.heap.size+1<=N:=by simpa using B
    have F:Only b w w':=Only.of (((Only.refl b w).set _ _).alloc _|>.drewN _) c;have k:=hZ ((((n.out.set1 (p+1) _ (by omega)).alloc _).drewN _).below c (by first|omega|(simp;done)|(simp;omega)));have X:Box w.heap.size w':=((Box.new1 w _ _ _ _ _ _ _ _).drewN _).below c (by simp);obtain⟨⟨G,H⟩,⟨I,J⟩,⟨K,M⟩,⟨O,P⟩,⟨Q,R⟩,⟨S,T⟩,U⟩:=X;have l:=hZ f;have Y:=hZ F;clear B f c F;refine hZ ?_;go_wp2;refine bodyPost_ret (v:=.tuple #[El.nil.v,.pointer (some ⟨N,0,none⟩)]) (by simp[results,results152,go_sem, *]) rfl ?_;rw[A.out];exact Res.err Y.out (eR _) (by omega) (by omega) l.out rfl (by omega) k.out (by omega) _ _ _ _ _ _
   ·have A:Hid (Py.truth (L s (p+1))=Py.closed (.bool false) (L s (p+2))):=qym s p j ct cf;go_enter func152,ntmps152
    go_wp2_with (first|(go_at_call 237;refine(qb4 b s (p+1) d _ _ (by first|exact(n.out.set1 (p+1) _ (by omega)).alloc _|exact((n.out.set1 (p+1) _ (by omega)).alloc _).drewN _) j).mono ?_;rintro e w' ⟨rfl,V,rfl⟩)|(go_at_call 243;refine(qg7 _ _).mono ?_;rintro e w1 ⟨rfl,c⟩;refine Hid.out ?_))
    have o:Rd b s (p+2) d w1:=((((n.out.set1 (p+1) _ (by omega)).alloc _).drewN _).set1 (p+2) _ (by omega)).below c (by simp;omega);have q:Only b w w1:=Only.of ((((Only.refl b w).set _ _).alloc _|>.drewN _).set _ _) c;have r:Box w.heap.size w1:=(((Box.new1 w _ _ _ _ _ _ _ _).drewN _).set (by omega) _).below c (by simp);have Z:w.heap.size+1<=w1.heap.size:=by have:=c.size;simp at this;omega
    have g:=hZ o;have t:=hZ q;have u:=hZ r;clear c o q r;refine hZ ?_;by_cases i:∀j:p+2<s.size,Px.endB s[p+2]=true
    ·have C:Hid (Py.closed (.bool false) (L s (p+2))=.inr ([.bool false],L s (p+2))):=qcq s (p+2) _ i;have D:=hZ i;clear i;go_wp2_with (go_at_call 242;refine(qdf b s (p+2) d ⟨1,0,false,⟨#[]⟩,0,none,0,0⟩ _ g.out D.out (by omega)).mono ?_;rintro e w2 ⟨rfl,c⟩;refine Hid.out ?_)
     have E:=hZ (g.out.below c (by omega));have m:=hZ (Only.of t.out c);have k:=hZ (g.out.below c (by first|omega|(simp;done)|(simp;omega)));obtain⟨⟨G,H⟩,⟨I,J⟩,⟨K,M⟩,⟨O,P⟩,⟨Q,R⟩,⟨S,T⟩,U⟩:=u.out.below c (by omega);clear c;refine hZ ?_;go_wp2;refine bodyPost_ret (v:=.tuple #[El.v ⟨1,0,false,⟨#[]⟩,0,none,0,0⟩,.pointer none]) (by simp[results,results152,go_sem, *]) rfl ?_;rw[A.out,C.out];exact Res.ok m.out (eR _) (Nat.lt_succ_self _) hb (by rw[show 32-d=(31-d)+1 from by omega];exact .inr (.inl ⟨rfl,rfl,rfl,rfl,rfl⟩)) E.out (by rw[qc6];omega) _ _ _ _ _ _
    ·have x:∃j:p+2<s.size,Px.endB s[p+2]=false:=by
      rcases Classical.not_forall.1 i with⟨a,ha⟩;exact⟨a,by simpa using ha⟩
     obtain⟨y,z⟩:=x;have C:Hid (Py.closed (.bool false) (L s (p+2))=.inl (2,s.size-(p+2))):=qdo s (p+2) _ y z;clear i;go_wp2_with (go_at_call 242;refine(qec b s (p+2) d ⟨1,0,false,⟨#[]⟩,0,none,0,0⟩ _ g.out y z).mono ?_;rintro e w2 ⟨N,rfl,B,f,c⟩;refine Hid.out ?_)
     have l:=hZ f;have m:=hZ (Only.of t.out c);have k:=hZ (g.out.below c (by first|omega|(simp;done)|(simp;omega)));obtain⟨⟨G,H⟩,⟨I,J⟩,⟨K,M⟩,⟨O,P⟩,⟨Q,R⟩,⟨S,T⟩,U⟩:=u.out.below c (by omega);clear c f;refine hZ ?_;go_wp2;refine bodyPost_ret (v:=.tuple #[El.nil.v,.pointer (some ⟨N,0,none⟩)]) (by simp[results,results152,go_sem, *]) rfl ?_;rw[A.out,C.out];exact Res.err m.out (eR _) (by omega) (by omega) l.out rfl (by omega) k.out (by omega) _ _ _ _ _ _
  ·have A:Hid (Py.truth (L s (p+1))=Py.closed (.bool true) (L s (p+2))):=qyl s p j ct;go_enter func152,ntmps152
   go_wp2_with (first|(go_at_call 237;refine(qb4 b s (p+1) d _ _ (by first|exact(n.out.set1 (p+1) _ (by omega)).alloc _|exact((n.out.set1 (p+1) _ (by omega)).alloc _).drewN _) j).mono ?_;rintro e w' ⟨rfl,V,rfl⟩)|(go_at_call 243;refine(qg7 _ _).mono ?_;rintro e w1 ⟨rfl,c⟩;refine Hid.out ?_))
   have o:Rd b s (p+2) d w1:=((((n.out.set1 (p+1) _ (by omega)).alloc _).drewN _).set1 (p+2) _ (by omega)).below c (by simp;omega);have q:Only b w w1:=Only.of ((((Only.refl b w).set _ _).alloc _|>.drewN _).set _ _) c;have r:Box w.heap.size w1:=(((Box.new1 w _ _ _ _ _ _ _ _).drewN _).set (by omega) _).below c (by simp);have Z:w.heap.size+1<=w1.heap.size:=by have:=c.size;simp at this;omega
   have g:=hZ o;have t:=hZ q;have u:=hZ r;clear c o q r;refine hZ ?_;by_cases i:∀j:p+2<s.size,Px.endB s[p+2]=true
   ·have C:Hid (Py.closed (.bool true) (L s (p+2))=.inr ([.bool true],L s (p+2))):=qcq s (p+2) _ i;have D:=hZ i;clear i;go_wp2_with (go_at_call 242;refine(qdf b s (p+2) d ⟨1,0,true,⟨#[]⟩,0,none,0,0⟩ _ g.out D.out (by omega)).mono ?_;rintro e w2 ⟨rfl,c⟩;refine Hid.out ?_)
    have E:=hZ (g.out.below c (by omega));have m:=hZ (Only.of t.out c);have k:=hZ (g.out.below c (by first|omega|(simp;done)|(simp;omega)));obtain⟨⟨G,H⟩,⟨I,J⟩,⟨K,M⟩,⟨O,P⟩,⟨Q,R⟩,⟨S,T⟩,U⟩:=u.out.below c (by omega);clear c;refine hZ ?_;go_wp2;refine bodyPost_ret (v:=.tuple #[El.v ⟨1,0,true,⟨#[]⟩,0,none,0,0⟩,.pointer none]) (by simp[results,results152,go_sem, *]) rfl ?_;rw[A.out,C.out];exact Res.ok m.out (eR _) (Nat.lt_succ_self _) hb (by rw[show 32-d=(31-d)+1 from by omega];exact .inr (.inl ⟨rfl,rfl,rfl,rfl,rfl⟩)) E.out (by rw[qc6];omega) _ _ _ _ _ _
   ·have x:∃j:p+2<s.size,Px.endB s[p+2]=false:=by
     rcases Classical.not_forall.1 i with⟨a,ha⟩;exact⟨a,by simpa using ha⟩
    obtain⟨y,z⟩:=x;have C:Hid (Py.closed (.bool true) (L s (p+2))=.inl (2,s.size-(p+2))):=qdo s (p+2) _ y z;clear i;go_wp2_with (go_at_call 242;refine(qec b s (p+2) d ⟨1,0,true,⟨#[]⟩,0,none,0,0⟩ _ g.out y z).mono ?_;rintro e w2 ⟨N,rfl,B,f,c⟩;refine Hid.out ?_)
    have l:=hZ f;have m:=hZ (Only.of t.out c);have k:=hZ (g.out.below c (by first|omega|(simp;done)|(simp;omega)));obtain⟨⟨G,H⟩,⟨I,J⟩,⟨K,M⟩,⟨O,P⟩,⟨Q,R⟩,⟨S,T⟩,U⟩:=u.out.below c (by omega);clear c f;refine hZ ?_;go_wp2;refine bodyPost_ret (v:=.tuple #[El.nil.v,.pointer (some ⟨N,0,none⟩)]) (by simp[results,results152,go_sem, *]) rfl ?_;rw[A.out,C.out];exact Res.err m.out (eR _) (by omega) (by omega) l.out rfl (by omega) k.out (by omega) _ _ _ _ _ _
 ·have A:Hid (Py.truth (L s (p+1))=.inl (2,s.size-p)):=qrh s p (by omega);go_enter func152,ntmps152
  go_wp2_with (first|(go_at_call 237;refine(qib b s (p+1) d _ _ (by first|exact(n.out.set1 (p+1) _ (by omega)).alloc _|exact((n.out.set1 (p+1) _ (by omega)).alloc _).drewN _) (by omega)).mono ?_;rintro e w' ⟨rfl,V,rfl⟩)|(go_at_call 147;refine(qbn _ _ _).mono ?_;rintro e w' ⟨N,rfl,B,f,c⟩;refine Hid.out ?_))
  have W:w.heap.size+1<=N:=by simpa using B
  have F:Only b w w':=Only.of (((Only.refl b w).set _ _).alloc _|>.drewN _) c;have k:=hZ ((((n.out.set1 (p+1) _ (by omega)).alloc _).drewN _).below c (by first|omega|(simp;done)|(simp;omega)));have X:Box w.heap.size w':=((Box.new1 w _ _ _ _ _ _ _ _).drewN _).below c (by simp);obtain⟨⟨G,H⟩,⟨I,J⟩,⟨K,M⟩,⟨O,P⟩,⟨Q,R⟩,⟨S,T⟩,U⟩:=X;have l:=hZ f;have Y:=hZ F;clear B f c F;refine hZ ?_;go_wp2;refine bodyPost_ret (v:=.tuple #[El.nil.v,.pointer (some ⟨N,0,none⟩)]) (by simp[results,results152,go_sem, *]) rfl ?_;rw[A.out];exact Res.err Y.out (eR _) (by omega) (by omega) l.out rfl (by omega) k.out (by omega) _ _ _ _ _ _
end Rd
end
section
namespace Rd
open Go.RowKit
structure Scan (P:UInt8->Bool) (s:BA) (a q:Nat):Prop where
 le:a<=q
 lim:q<=s.size
 all:∀i (h:i<s.size),a<=i->i<q->P s[i]=true
theorem Scan.refl(P:UInt8->Bool)(s:BA)(a:Nat)(h:a<=s.size):Scan P s a a:=⟨eR _,h,λi _ b c=>by omega⟩
theorem Scan.next{P:UInt8->Bool}{s:BA}{a q:Nat}(h:Scan P s a q)(f:q<s.size)(b:P s[q]=true):Scan P s a (q+1):=
 ⟨by have:=h.le;omega,by omega,λi c d g=>by
  by_cases e:i=q
  ·subst e;exact b
  ·exact h.all i c d (by omega)⟩
theorem qoy(s:BA)(a q:Nat):(s.extract a q).data.toList=(L s a).take (q-a):=by
 unfold L;rw[ByteArray.data_extract,Array.toList_extract,List.extract_eq_take_drop]
theorem Scan.ends{P:UInt8->Bool}{s:BA}:∀(n a q:Nat),q=a+n->Scan P s a q->(∀h:q<s.size,P s[q]=false)->(L s a).takeWhile P=(L s a).take (q-a)/\(L s a).dropWhile P=L s q
 |0,a,q,e,h,hq=>by
  have d:q=a:=by omega
  subst d;by_cases b:q<s.size
  ·rw[qgq s q b];simp[List.takeWhile,List.dropWhile,hq b]
  ·rw[qkb s q (by omega)];simp
 |n+1,a,q,e,h,hq=>by
  have b:a<s.size:=by have:=h.lim;omega
  have f:=h.all a b (eR _) (by omega);have c:=Scan.ends n (a+1) q (by omega) ⟨by omega,h.lim,λi g k j=>h.all i g (by omega) j⟩ hq;rw[qgq s a b];rw[show q-a=(q-(a+1))+1 from by omega];simp[List.takeWhile,List.dropWhile,f,c.1,c.2]
theorem Scan.fin{P:UInt8->Bool}{s:BA}{a q:Nat}(h:Scan P s a q)(b:∀h:q<s.size,P s[q]=false):(L s a).takeWhile P=(s.extract a q).data.toList/\(L s a).dropWhile P=L s q:=by
 have:=Scan.ends (q-a) a q (by have:=h.le;omega) h b;rw[qoy s a q];exact this
theorem qyv{s:BA}{a q:Nat}(h:Scan Px.strB s a q)(e:q=s.size):Py.str (L s a)=.inl (3,0):=by
 have f:=h.fin (λb=>by omega);unfold Py.str;rw[f.2,qkb s q (by omega)]
theorem qrn{s:BA}{a q:Nat}(h:Scan Px.strB s a q)(b:q<s.size)(c:((s[q].toNat:Int)==34)=true):Py.str (L s a)=.inr ([.str (s.extract a q).data.toList],L s (q+1)):=by
 have e:s[q].toNat=34:=by have:=beq_iff_eq.1 c;omega
 have f:=h.fin (λd=>by unfold Px.strB;simp[e]);unfold Py.str;rw[f.1,f.2,qgq s q b];simp[e]
theorem qyw{s:BA}{a q:Nat}(h:Scan Px.strB s a q)(b:q<s.size)(c:Px.strB s[q]=false)(d:((s[q].toNat:Int)==34)=false):Py.str (L s a)=.inl (2,s.size-q):=by
 have e:s[q].toNat≠34:=by have:=beq_eq_false_iff_ne.1 d;omega
 have f:=h.fin (λg=>c);unfold Py.str;rw[f.2,qgq s q b];simp[e,qc6];omega
theorem qpi(b:Nat)(s:BA)(p d:Nat)(w:Wd)(h:Rd b s p d w)(hp:p<s.size)(hs:s.size<=1200)(C:d<=30):
  Calls prog 151 #[.pointer (some ⟨b,0,none⟩)] w λe w'=>Res b s d (Py.str (L s (p+1))) w e w':=by
 have h1:=h.c1;have hf:=h.fz 1;have V:=h.lt;have W:Hid (Rd b s p d w):=h;clear h;go_enter func151,ntmps151
 go_wp2;go_loopw [] (λwr=>∃q,Scan Px.strB s (p+1) q/\Rd b s q d wr/\Only b w wr/\Box w.heap.size wr/\w.heap.size<wr.heap.size) (λwr=>s.size-qdi b wr)
 case atStart=>exact⟨p+1,Scan.refl _ _ _ (by omega),(W.out.set1 (p+1) _ (by omega)).alloc _,((Only.refl b w).set _ _).alloc _,Box.new1 w _ _ _ _ _ _ _ _,by simp⟩
 case round=>
  obtain⟨q,t,m,D,E,X⟩:=hrel;have Y:=m.c0;have Z:=m.c1;have a0:=m.fz 1;have hq:=t.lim;have a1:=t.le;have c:=hZ m;have u:=hZ D;have x:=hZ E;have y:=hZ t;have n:Hid (qdi b wr=q):=m.pos;clear m D E t;by_cases f:q<s.size
  ·have hd:((q:Int)==(s.size:Int))=false:=by simp;omega
   cases hc:Px.strB s[q]
   ·cases cq:((s[q].toNat:Int)==34)
    ·have o:Hid (Py.str (L s (p+1))=.inl (2,s.size-q)):=qyw y.out f hc cq;go_wp2;go_quiet ((first|(go_at_call 87;exact Calls.quiet_of (qai b s q d _ (c.out.drewN _)))|(go_at_call 240;exact Calls.quiet_of_same (qbs _ _))))
     go_wp2_with (first|(go_at_call 87;refine(qai b s q d _ (c.out.drewN _)).mono ?_;rintro e w' ⟨rfl,F,rfl⟩)|(go_at_call 237;refine(qb4 b s q d _ _ (c.out.drewN _) f).mono ?_;rintro e w' ⟨rfl,n2,rfl⟩)|(go_at_call 147;refine(qbn _ _ _).mono ?_;rintro e w' ⟨N,rfl,r,g,a⟩;refine Hid.out ?_))
     have i:Only b w w':=Only.of (u.out.drewN _) a;have k:=hZ ((c.out.drewN _).below a (by first|omega|(simp;done)|(simp;omega)));have z:Box w.heap.size w':=(x.out.drewN _).below a (by simp;try omega);have A:w.heap.size+1<=N:=by simp at r;omega
     obtain⟨⟨G,H⟩,⟨I,J⟩,⟨K,M⟩,⟨O,P⟩,⟨Q,R⟩,⟨S,T⟩,U⟩:=z;have l:=hZ g;have j:=hZ i;clear r g a i;refine hZ ?_;go_wp2;refine bodyPost_ret (v:=.tuple #[El.nil.v,.pointer (some ⟨N,0,none⟩)]) (by simp[results,results151,go_sem, *]) rfl ?_;rw[o.out];exact Res.err j.out (eR _) (by omega) (by omega) l.out rfl (by omega) k.out (by omega) _ _ _ _ _ _
    ·have o:Hid (Py.str (L s (p+1))=.inr ([.str (s.extract (p+1) q).data.toList],L s (q+1))):=qrn y.out f cq;go_wp2;go_quiet ((first|(go_at_call 87;exact Calls.quiet_of (qai b s q d _ (c.out.drewN _)))|(go_at_call 240;exact Calls.quiet_of_same (qbs _ _))))
     go_wp2_with (first|(go_at_call 87;refine(qai b s q d _ (c.out.drewN _)).mono ?_;rintro e w' ⟨rfl,F,rfl⟩)|(go_at_call 237;refine(qb4 b s q d _ _ (c.out.drewN _) f).mono ?_;rintro e w' ⟨rfl,n2,rfl⟩)|(go_at_call 241;refine(qf7 _ _).mono ?_;rintro e w1 ⟨rfl,a⟩;refine Hid.out ?_))
     go_quiet (fail)
     go_wp2_with (go_at_call 241;refine(qf7 _ _).mono ?_;rintro e w1 ⟨rfl,a⟩;refine Hid.out ?_)
     have B:=hZ (((c.out.drewN _).set1 (q+1) _ (by omega)).below a (by simp;omega));have j:=hZ (Only.of ((u.out.drewN _).set _ _) a);obtain⟨⟨G,H⟩,⟨I,J⟩,⟨K,M⟩,⟨O,P⟩,⟨Q,R⟩,⟨S,T⟩,U⟩:=((x.out.drewN _).set (by omega) _).below a (by simp;omega);clear a;refine hZ ?_;go_wp2;refine bodyPost_ret (v:=.tuple #[El.v ⟨2,0,false,s.extract (p+1) q,0,none,0,0⟩,.pointer none]) (by simp[results,results151,go_sem, *]) rfl ?_;rw[o.out];exact Res.ok j.out (eR _) (Nat.lt_succ_self _) V (by rw[show 32-d=(31-d)+1 from by omega];exact .inr (.inr (.inl ⟨rfl,rfl,rfl,rfl,rfl⟩))) B.out (by rw[qc6];omega) _ _ _ _ _ _
   ·go_wp2;go_quiet ((first|(go_at_call 87;exact Calls.quiet_of (qai b s q d _ (c.out.drewN _)))|(go_at_call 240;exact Calls.quiet_of_same (qbs _ _))))
    go_wp2;go_roundw
    case rel=>exact⟨q+1,y.out.next f hc,(c.out.drewN _).set1 _ _ (by omega),(u.out.drewN _).set _ _,(x.out.drewN _).set (by omega) _,by simpa using X⟩
    case measure=>
     have e1:=n.out;have e2:=((c.out.drewN nq).set1 (q+1) ((q:Int)+1) (by omega)).pos;rw[e1,e2];omega
  ·have hd:((q:Int)==(s.size:Int))=true:=by simp;omega
   have o:Hid (Py.str (L s (p+1))=.inl (3,0)):=qyv y.out (by omega);go_wp2;go_quiet ((first|(go_at_call 87;exact Calls.quiet_of (qai b s q d _ (c.out.drewN _)))|(go_at_call 240;exact Calls.quiet_of_same (qbs _ _))))
   go_wp2_with (first|(go_at_call 87;refine(qai b s q d _ (c.out.drewN _)).mono ?_;rintro e w' ⟨rfl,F,rfl⟩)|(go_at_call 147;refine(qbn _ _ _).mono ?_;rintro e w' ⟨N,rfl,r,g,a⟩;refine Hid.out ?_))
   have i:Only b w w':=Only.of (u.out.drewN _) a;have k:=hZ ((c.out.drewN _).below a (by first|omega|(simp;done)|(simp;omega)));have z:Box w.heap.size w':=(x.out.drewN _).below a (by simp;try omega);have A:w.heap.size+1<=N:=by simp at r;omega
   obtain⟨⟨G,H⟩,⟨I,J⟩,⟨K,M⟩,⟨O,P⟩,⟨Q,R⟩,⟨S,T⟩,U⟩:=z;have l:=hZ g;have j:=hZ i;clear r g a i;refine hZ ?_;go_wp2;refine bodyPost_ret (v:=.tuple #[El.nil.v,.pointer (some ⟨N,0,none⟩)]) (by simp[results,results151,go_sem, *]) rfl ?_;rw[o.out];exact Res.err j.out (eR _) (by omega) (by omega) l.out rfl (by omega) k.out (by omega) _ _ _ _ _ _
end Rd
end
section
namespace Rd
open Go.RowKit
theorem ql3(l:List UInt8):Lib.trimPrefix l [45]=Px.unsign l:=by
 unfold Lib.trimPrefix Lib.hasPrefix Px.unsign;cases l with
 |nil=>simp
 |cons c r=>
  by_cases h:c=45
  ·subst h;simp
  ·have a:¬c.toNat=45:=λe=>h (by rw[<-UInt8.toNat_inj];simpa using e)
   simp[a,Ne.symm h]
theorem qpe(l:List UInt8):(Px.unsign l).length<=l.length:=by
 cases l with
 |nil=>simp[Px.unsign]
 |cons c r=>
  by_cases h:c.toNat=45
  ·simp[Px.unsign,h]
  ·simp[Px.unsign,h]
theorem qka(u:BA)(k:Nat)(h:k<u.size):(u.data.toList.take (k+1)).all Px.digB=((u.data.toList.take k).all Px.digB&&Px.digB u[k]):=by
 rw[List.take_succ_eq_append_getElem (by simpa using h),List.all_append];simp;rfl
theorem qnu(u:BA)(k:Nat)(h:k<u.size)(a:Px.digB u[k]=false):u.data.toList.all Px.digB=false:=by
 rw[List.all_eq_false];exact⟨u[k],by show u.data[k]∈_;simp,by simp[a]⟩
theorem qbh(t:BA)(w:Wd)(j:t.size<=1200):
  Calls prog 246 #[.string t] w λe w'=>e=.returned (.bool (Px.numB t.data.toList))/\w'=w:=by
 go_enter func246,ntmps246
 go_wp2_with (go_at_call 301;refine(Tryz.strings_TrimPrefix _ _ _).mono ?_;rintro e w' ⟨rfl,rfl⟩;refine Hid.out ?_)
 refine hZ ?_;obtain⟨u,d⟩:∃u:BA,u=⟨(Lib.trimPrefix t.data.toList [45]).toArray⟩:=⟨_,rfl⟩;have b:u.data.toList=Px.unsign t.data.toList:=by rw[d,<-ql3]
 have h:u.size<=1200:=by
  have e1:u.size=u.data.toList.length:=by simp
  have e2:t.size=t.data.toList.length:=by simp
  rw[e1,b];have:=qpe t.data.toList;omega
 have f:=hZ b;clear b;simp only[<-d];clear d;go_wp2;go_loop [9] (λi=>∃k:Nat,k<=u.size/\i=.int .i64 k/\(u.data.toList.take k).all Px.digB=true) (λi=>u.size-(intOf i).toNat)
 case atStart=>exact⟨0,Nat.zero_le _,rfl,rfl⟩
 case round=>
  obtain⟨k,l,rfl,a⟩:=hrel;have g:=hZ a;clear a;by_cases c:k<u.size
  ·cases hd:Px.digB u[k]
   ·go_wp2_with (go_at_call 244;refine(qeq _ _).mono ?_;rintro e w' ⟨rfl,rfl⟩)
    go_ret;refine⟨?_,rfl⟩;unfold Px.numB;rw[<-f.out,qnu u k c hd];rfl
   ·go_wp2_with (go_at_call 244;refine(qeq _ _).mono ?_;rintro e w' ⟨rfl,rfl⟩)
    go_round
    case rel=>exact⟨k+1,by omega,by go_num,by rw[qka u k c,g.out,hd];rfl⟩
    case measure=>simp[intOf];omega
  ·go_wp2;go_ret;refine⟨?_,rfl⟩;have e:(u.data.toList.take k)=u.data.toList:=List.take_of_length_le (by simp;omega);have:=g.out;rw[e]at this;unfold Px.numB;rw[<-f.out,this];show Ending.returned (Value.bool !u.toList.isEmpty)=_;rw[Lib.toList_data];rfl
end Rd
end
section
namespace Rd
open Go.RowKit
theorem qda(M:Nat):∀(l:List UInt8) (a:Nat),l.all Px.digB=true->(∃u,Lib.parseUintM M a l=.ok u)\/Lib.parseUintM M a l=.range
 | [],a,_=>.inl ⟨a,rfl⟩
 |c::r,a,h=>by
  have b:Px.digB c=true/\r.all Px.digB=true:=by simpa using h
  have f:48<=c.toNat/\c.toNat<=57:=by simpa[Px.digB]using b.1
  unfold Lib.parseUintM;rw[if_pos f];by_cases d:1844674407370955162<=a
  ·rw[if_pos d];exact .inr rfl
  ·rw[if_neg d];by_cases e:M<a*10+(c.toNat-48)
   ·rw[if_pos e];exact .inr rfl
   ·rw[if_neg e];exact qda M r _ b.2
theorem qk5(l:List UInt8)(h:Px.numB l=true):(∃v,Lib.parseIntB 64 l=.ok v)\/Lib.parseIntB 64 l=.range:=by
 unfold Px.numB at h;rw[Bool.and_eq_true]at h;obtain⟨b,a⟩:=h;cases l with
 |nil=>simp[Px.unsign]at a
 |cons c r=>
  have hne:(if c.toNat=43\/c.toNat=45 then r else c::r)=Px.unsign (c::r):=by
   unfold Px.unsign;by_cases e:c.toNat=45
   ·simp[e]
   ·have e3:¬c.toNat=43:=by
     intro e3;have:Px.digB c=true/\r.all Px.digB=true:=by simpa[Px.unsign,e]using b
     simp[Px.digB,e3]at this
    simp[e,e3]
  have d:Px.unsign (c::r)≠[]:=by intro e;rw[e]at a;simp at a
  have f:=qda (2 ^ 64-1) _ 0 b;have g:Lib.parseUintB 64 (Px.unsign (c::r))=Lib.parseUintM (2 ^ 64-1) 0 (Px.unsign (c::r)):=by unfold Lib.parseUintB;rw[if_neg d]
  unfold Lib.parseIntB;simp only[hne,g];rcases f with⟨u,hu⟩|hu
  ·rw[hu];simp only;split
   ·exact .inr rfl
   ·split
    ·exact .inr rfl
    ·exact .inl ⟨_,rfl⟩
  ·rw[hu];exact .inr rfl
def GV(w:Wd):Prop:=∃tp p,w.var? prog "strconv.ErrRange" =some #[.iface tp p]
theorem errRange_no:prog.globalNamed "strconv.ErrRange" =some 5:=by kernel_rfl
theorem Only.below{b B:Nat}{w w':Wd}(h:Only b w w')(a:B<=b)(c:B<=w.heap.size):Below B w w':=
 ⟨h.os,h.tape,h.output,h.size,λk d=>h.block k (by omega) (by intro e;cases e;omega)⟩
theorem GV.only{b:Nat}{w w':Wd}(h:GV w)(a:Only b w w')(c:6<=b)(d:6<=w.heap.size):GV w':=by
 obtain⟨e,p,h⟩:=h;exact⟨e,p,var?_below (a.below c d) errRange_no (by omega) h⟩
theorem qxr{s:BA}{p q:Nat}(h:Scan Px.wordB s p q)(a:∀h:q<s.size,Px.wordB s[q]=false):Py.word (L s p)=Py.wordOf (s.extract p q).data.toList (L s q):=by
 unfold Py.word;rw[(h.fin a).1,(h.fin a).2]
theorem q6x{s:BA}{p q:Nat}(a:p<=q)(b:q<=s.size):(s.extract p q).data.toList.length+(L s q).length=s.size-p:=by
 rw[qoy,List.length_take,qc6,qc6];omega
theorem qg2(u:BA)(a:u.size<=9223372036854775806)(v:Int)(h:Lib.parseIntB 64 u.data.toList=.ok v)(w:Wd):
  Calls prog 247 #[.string u,.int .i64 10,.int .i64 64] w λe w'=>e=.returned (.tuple #[.int .i64 v,.nilIface])/\Below w.heap.size w w':=by
 refine(Tryz.strconv_ParseInt_10_at64_ok u a v h w).mono ?_;rintro e w1 ⟨rfl,b⟩;refine⟨rfl,?_⟩;rcases b with rfl|⟨t,rfl⟩
 ·exact Below.refl _ _
 ·exact Lib.bytesWorld_below _ _ _
theorem quy(b:Nat)(s:BA)(p d:Nat)(w:Wd)(h:Rd b s p d w)(hp:p<s.size)(hs:s.size<=1200)(a9:d<=30)(hG:GV w)(a4:6<=b):
  Calls prog 154 #[.pointer (some ⟨b,0,none⟩)] w λe w'=>Res b s d (Py.word (L s p)) w e w':=by
 have h1:=h.c1;have hf:=h.fz 1;have hb:=h.lt;have HR:Hid (Rd b s p d w):=h;have HG:=hZ hG;clear h hG;go_enter func154,ntmps154
 go_wp2;go_loopw [] (λwr=>∃q,Scan Px.wordB s p q/\Rd b s q d wr/\Only b w wr/\Box w.heap.size wr/\w.heap.size<wr.heap.size) (λwr=>s.size-qdi b wr)
 case atStart=>exact⟨p,Scan.refl _ _ _ (by omega),HR.out.alloc _,(Only.refl b w).alloc _,Box.new w _ _ _ _ _ _,by simp⟩
 case round=>
  obtain⟨q,hS,hR,hO,hX,hz⟩:=hrel;have b0:=hR.c0;have b1:=hR.c1;have b2:=hR.fz 1;have hq:=hS.lim;have a5:=hS.le;have l:=hZ hR;have K:=hZ hO;have W:=hZ hX;have HS:=hZ hS;have a6:Hid (qdi b wr=q):=hR.pos;clear hR hO hX hS;by_cases m:q<s.size
  ·have hd:((q:Int)==(s.size:Int))=false:=by simp;omega
   cases hc:Px.wordB s[q]
   ·have a2:=hc;clear a2;have E:Py.word (L s p)=Py.wordOf (s.extract p q).data.toList (L s q):=qxr HS.out (λ_=>hc);have F:=q6x (s:=s) a5 hq;go_wp2;go_quiet ((first|(go_at_call 87;exact Calls.quiet_of (qai b s q d _ (l.out.drewN _)))|(go_at_call 153;exact Calls.quiet_of_same (qba _ _))))
    go_wp2;go_quiet (fail)
    obtain⟨u,X⟩:∃u,u=s.extract p q:=⟨_,rfl⟩;rw[<-X]at E F|-;have a7:u.size<=1200:=by rw[X];simp;omega
    have HU:=hZ X;have M:=hZ F;have y:=hZ E;clear X F E;cases hn:Px.numB u.data.toList
    ·by_cases A:24<u.size
     ·have B:Hid (Py.word (L s p)=.inl (4,s.size-p)):=by
       show _=_;rw[y.out];unfold Py.wordOf;rw[hn,if_neg (by simp),if_pos (by simpa using A),M.out]
      go_wp2_with (first|(go_at_call 246;refine(qbh _ _ (by omega)).mono ?_;rintro e w' ⟨rfl,rfl⟩)|(go_at_call 147;refine(qbn _ _ _).mono ?_;rintro e w' ⟨N,rfl,C,i,c⟩;refine Hid.out ?_))
      have j:Only b w w':=Only.of (K.out.drewN _) c;have r:=hZ ((l.out.drewN _).below c (by first|omega|(simp;done)|(simp;omega)));have O:Box w.heap.size w':=(W.out.drewN _).below c (by first|omega|(simp;done)|(simp;omega));have P:w.heap.size+1<=N:=by first|omega|(simp at C;omega)
      obtain⟨⟨Y,Z⟩,⟨y1,k1⟩,⟨y2,k2⟩,⟨y3,k3⟩,⟨y4,k4⟩,⟨y5,k5⟩,kf⟩:=O;have t:=hZ i;have g:=hZ j;clear C i c j;refine hZ ?_;go_wp2;refine bodyPost_ret (v:=.tuple #[El.nil.v,.pointer (some ⟨N,0,none⟩)]) (by simp[results,results154,go_sem, *]) rfl ?_;rw[B.out];exact Res.err g.out (eR _) (by omega) (by omega) t.out rfl (by omega) r.out (by omega) _ _ _ _ _ _
     ·have B:Hid (Py.word (L s p)=Py.closed (.sym u.data.toList 0) (L s q)):=by
       show _=_;rw[y.out];unfold Py.wordOf;rw[hn,if_neg (by simp),if_neg (by simpa using A)]
      go_wp2_with (first|(go_at_call 246;refine(qbh _ _ (by omega)).mono ?_;rintro e w' ⟨rfl,rfl⟩)|(go_at_call 239;refine(qf6 _ _).mono ?_;rintro e w1 ⟨rfl,c⟩;refine Hid.out ?_))
      have k:=hZ ((l.out.drewN _).below c (by simp;omega));have n:=hZ (Only.of (K.out.drewN _) c);have o:=hZ ((W.out.drewN _).below c (by simp;omega));have Q:w.heap.size+1<=w1.heap.size:=by have:=c.size;simp at this;omega
      clear c;refine hZ ?_;by_cases f:∀m:q<s.size,Px.endB s[q]=true
      ·have R:Hid (Py.closed (.sym u.data.toList 0) (L s q)=.inr ([.sym u.data.toList 0],L s q)):=qcq s q _ f;have G:=hZ f;clear f;go_wp2_with (go_at_call 242;refine(qdf b s q d ⟨3,0,false,u,0,none,0,0⟩ _ k.out G.out (by omega)).mono ?_;rintro e w9 ⟨rfl,c⟩;refine Hid.out ?_)
       have H:=hZ (k.out.below c (by omega));have g:=hZ (Only.of n.out c);obtain⟨⟨Y,Z⟩,⟨y1,k1⟩,⟨y2,k2⟩,⟨y3,k3⟩,⟨y4,k4⟩,⟨y5,k5⟩,kf⟩:=o.out.below c (by omega);clear c;refine hZ ?_;go_wp2;refine bodyPost_ret (v:=.tuple #[El.v ⟨3,0,false,u,0,none,0,0⟩,.pointer none]) (by simp[results,results154,go_sem, *]) rfl ?_;rw[B.out,R.out];exact Res.ok g.out (eR _) (Nat.lt_succ_self _) hb (by rw[show 32-d=(31-d)+1 from by omega];exact .inr (.inr (.inr (.inl ⟨rfl,rfl,rfl⟩)))) H.out (by rw[qc6];omega) _ _ _ _ _ _
      ·have x:∃m:q<s.size,Px.endB s[q]=false:=by
        rcases Classical.not_forall.1 f with⟨a,ha⟩;exact⟨a,by simpa using ha⟩
       obtain⟨z,I⟩:=x;have R:Hid (Py.closed (.sym u.data.toList 0) (L s q)=.inl (2,s.size-q)):=qdo s q _ z I;clear f;go_wp2_with (go_at_call 242;refine(qec b s q d ⟨3,0,false,u,0,none,0,0⟩ _ k.out z I).mono ?_;rintro e w' ⟨N,rfl,C,i,c⟩;refine Hid.out ?_)
       have j:Only b w w':=Only.of (n.out) c;have r:=hZ ((k.out).below c (by first|omega|(simp;done)|(simp;omega)));have O:Box w.heap.size w':=(o.out).below c (by first|omega|(simp;done)|(simp;omega));have P:w.heap.size+1<=N:=by first|omega|(simp at C;omega)
       obtain⟨⟨Y,Z⟩,⟨y1,k1⟩,⟨y2,k2⟩,⟨y3,k3⟩,⟨y4,k4⟩,⟨y5,k5⟩,kf⟩:=O;have t:=hZ i;have g:=hZ j;clear C i c j;refine hZ ?_;go_wp2;refine bodyPost_ret (v:=.tuple #[El.nil.v,.pointer (some ⟨N,0,none⟩)]) (by simp[results,results154,go_sem, *]) rfl ?_;rw[B.out,R.out];exact Res.err g.out (eR _) (by omega) (by omega) t.out rfl (by omega) r.out (by omega) _ _ _ _ _ _
    ·rcases qk5 _ hn with⟨v,hv⟩|hv
     ·have B:Hid (Py.word (L s p)=Py.closed (.num v) (L s q)):=by
       show _=_;rw[y.out];unfold Py.wordOf;rw[hn,if_pos rfl,hv]
      have S:=Lib.parseIntB_bounds hv;have T:=hZ S;have HV:=hZ hv;clear hv S;go_wp2_with (first|(go_at_call 246;refine(qbh _ _ (by omega)).mono ?_;rintro e w' ⟨rfl,rfl⟩)|(go_at_call 247;refine(qg2 u (by omega) v HV.out _).mono ?_;rintro e w1 ⟨rfl,c⟩;refine Hid.out ?_))
      have k:=hZ ((l.out.drewN _).below c (by simp;omega));have n:=hZ (Only.of (K.out.drewN _) c);have o:=hZ ((W.out.drewN _).below c (by simp;omega));have Q:w.heap.size+1<=w1.heap.size:=by have:=c.size;simp at this;omega
      clear c;refine hZ ?_;go_wp2_with (go_at_call 248;refine(qf8 _ _).mono ?_;rintro e w2 ⟨rfl,c⟩;refine Hid.out ?_)
      have J:=hZ (k.out.below c (by omega));have a0:=hZ (Only.of n.out c);have a1:=hZ (o.out.below c (by omega));have a8:w.heap.size+1<=w2.heap.size:=by have:=c.size;omega
      clear c;refine hZ ?_;by_cases f:∀m:q<s.size,Px.endB s[q]=true
      ·have R:Hid (Py.closed (.num v) (L s q)=.inr ([.num v],L s q)):=qcq s q _ f;have G:=hZ f;clear f;go_wp2_with (go_at_call 242;refine(qdf b s q d ⟨0,v,false,⟨#[]⟩,0,none,0,0⟩ _ J.out G.out (by omega)).mono ?_;rintro e w9 ⟨rfl,c⟩;refine Hid.out ?_)
       have H:=hZ (J.out.below c (by omega));have g:=hZ (Only.of a0.out c);obtain⟨⟨Y,Z⟩,⟨y1,k1⟩,⟨y2,k2⟩,⟨y3,k3⟩,⟨y4,k4⟩,⟨y5,k5⟩,kf⟩:=a1.out.below c (by omega);clear c;refine hZ ?_;go_wp2;refine bodyPost_ret (v:=.tuple #[El.v ⟨0,v,false,⟨#[]⟩,0,none,0,0⟩,.pointer none]) (by simp[results,results154,go_sem, *]) rfl ?_;rw[B.out,R.out];exact Res.ok g.out (eR _) (Nat.lt_succ_self _) hb (by rw[show 32-d=(31-d)+1 from by omega];exact .inl ⟨rfl,rfl,by have:=T.out.1;show _<=v;simpa using this,(by have:=T.out.2;simp at this;show v<=_;omega),rfl,rfl,rfl⟩) H.out (by rw[qc6];omega) _ _ _ _ _ _
      ·have x:∃m:q<s.size,Px.endB s[q]=false:=by
        rcases Classical.not_forall.1 f with⟨a,ha⟩;exact⟨a,by simpa using ha⟩
       obtain⟨z,I⟩:=x;have R:Hid (Py.closed (.num v) (L s q)=.inl (2,s.size-q)):=qdo s q _ z I;clear f;go_wp2_with (go_at_call 242;refine(qec b s q d ⟨0,v,false,⟨#[]⟩,0,none,0,0⟩ _ J.out z I).mono ?_;rintro e w' ⟨N,rfl,C,i,c⟩;refine Hid.out ?_)
       have j:Only b w w':=Only.of (a0.out) c;have r:=hZ ((J.out).below c (by first|omega|(simp;done)|(simp;omega)));have O:Box w.heap.size w':=(a1.out).below c (by first|omega|(simp;done)|(simp;omega));have P:w.heap.size+1<=N:=by first|omega|(simp at C;omega)
       obtain⟨⟨Y,Z⟩,⟨y1,k1⟩,⟨y2,k2⟩,⟨y3,k3⟩,⟨y4,k4⟩,⟨y5,k5⟩,kf⟩:=O;have t:=hZ i;have g:=hZ j;clear C i c j;refine hZ ?_;go_wp2;refine bodyPost_ret (v:=.tuple #[El.nil.v,.pointer (some ⟨N,0,none⟩)]) (by simp[results,results154,go_sem, *]) rfl ?_;rw[B.out,R.out];exact Res.err g.out (eR _) (by omega) (by omega) t.out rfl (by omega) r.out (by omega) _ _ _ _ _ _
     ·have B:Hid (Py.word (L s p)=.inl (4,s.size-p)):=by
       show _=_;rw[y.out];unfold Py.wordOf;rw[hn,if_pos rfl,hv,M.out]
      obtain⟨tp,pv,D⟩:=(HG.out.only K.out a4 (by omega));have HV:=hZ hv;have U:=hZ D;clear hv D;go_wp2_with (first|(go_at_call 246;refine(qbh _ _ (by omega)).mono ?_;rintro e w' ⟨rfl,rfl⟩)|(go_at_call 247;refine(Tryz.strconv_ParseInt_10_at64_range_var u (by omega) HV.out tp pv _ (by exact U.out)).mono ?_;rintro e w1 ⟨N1,rfl,a3,V,c⟩;refine Hid.out ?_))
      clear a3 V;have k:=hZ ((l.out.drewN _).below c (by simp;omega));have n:=hZ (Only.of (K.out.drewN _) c);have o:=hZ ((W.out.drewN _).below c (by simp;omega));have Q:w.heap.size+1<=w1.heap.size:=by have:=c.size;simp at this;omega
      clear c;refine hZ ?_;go_wp2_with (go_at_call 147;refine(qbn _ _ _).mono ?_;rintro e w' ⟨N,rfl,C,i,c⟩;refine Hid.out ?_)
      have j:Only b w w':=Only.of (n.out) c;have r:=hZ ((k.out).below c (by first|omega|(simp;done)|(simp;omega)));have O:Box w.heap.size w':=(o.out).below c (by first|omega|(simp;done)|(simp;omega));have P:w.heap.size+1<=N:=by first|omega|(simp at C;omega)
      obtain⟨⟨Y,Z⟩,⟨y1,k1⟩,⟨y2,k2⟩,⟨y3,k3⟩,⟨y4,k4⟩,⟨y5,k5⟩,kf⟩:=O;have t:=hZ i;have g:=hZ j;clear C i c j;refine hZ ?_;go_wp2;refine bodyPost_ret (v:=.tuple #[El.nil.v,.pointer (some ⟨N,0,none⟩)]) (by simp[results,results154,go_sem, *]) rfl ?_;rw[B.out];exact Res.err g.out (eR _) (by omega) (by omega) t.out rfl (by omega) r.out (by omega) _ _ _ _ _ _
   ·go_wp2;go_quiet ((first|(go_at_call 87;exact Calls.quiet_of (qai b s q d _ (l.out.drewN _)))|(go_at_call 153;exact Calls.quiet_of_same (qba _ _))))
    go_wp2;go_roundw
    case rel=>exact⟨q+1,HS.out.next m hc,(l.out.drewN _).set1 _ _ (by omega),(K.out.drewN _).set _ _,(W.out.drewN _).set (by omega) _,by simpa using hz⟩
    case measure=>
     have e1:=a6.out;have e2:=((l.out.drewN nq).set1 (q+1) ((q:Int)+1) (by omega)).pos;rw[e1,e2];omega
  ·have hd:((q:Int)==(s.size:Int))=true:=by simp;omega
   have E:Py.word (L s p)=Py.wordOf (s.extract p q).data.toList (L s q):=qxr HS.out (λh=>absurd h m);have F:=q6x (s:=s) a5 hq;go_wp2;go_quiet ((first|(go_at_call 87;exact Calls.quiet_of (qai b s q d _ (l.out.drewN _)))|(go_at_call 153;exact Calls.quiet_of_same (qba _ _))))
   go_wp2;go_quiet (fail)
   obtain⟨u,X⟩:∃u,u=s.extract p q:=⟨_,rfl⟩;rw[<-X]at E F|-;have a7:u.size<=1200:=by rw[X];simp;omega
   have HU:=hZ X;have M:=hZ F;have y:=hZ E;clear X F E;cases hn:Px.numB u.data.toList
   ·by_cases A:24<u.size
    ·have B:Hid (Py.word (L s p)=.inl (4,s.size-p)):=by
      show _=_;rw[y.out];unfold Py.wordOf;rw[hn,if_neg (by simp),if_pos (by simpa using A),M.out]
     go_wp2_with (first|(go_at_call 246;refine(qbh _ _ (by omega)).mono ?_;rintro e w' ⟨rfl,rfl⟩)|(go_at_call 147;refine(qbn _ _ _).mono ?_;rintro e w' ⟨N,rfl,C,i,c⟩;refine Hid.out ?_))
     have j:Only b w w':=Only.of (K.out.drewN _) c;have r:=hZ ((l.out.drewN _).below c (by first|omega|(simp;done)|(simp;omega)));have O:Box w.heap.size w':=(W.out.drewN _).below c (by first|omega|(simp;done)|(simp;omega));have P:w.heap.size+1<=N:=by first|omega|(simp at C;omega)
     obtain⟨⟨Y,Z⟩,⟨y1,k1⟩,⟨y2,k2⟩,⟨y3,k3⟩,⟨y4,k4⟩,⟨y5,k5⟩,kf⟩:=O;have t:=hZ i;have g:=hZ j;clear C i c j;refine hZ ?_;go_wp2;refine bodyPost_ret (v:=.tuple #[El.nil.v,.pointer (some ⟨N,0,none⟩)]) (by simp[results,results154,go_sem, *]) rfl ?_;rw[B.out];exact Res.err g.out (eR _) (by omega) (by omega) t.out rfl (by omega) r.out (by omega) _ _ _ _ _ _
    ·have B:Hid (Py.word (L s p)=Py.closed (.sym u.data.toList 0) (L s q)):=by
      show _=_;rw[y.out];unfold Py.wordOf;rw[hn,if_neg (by simp),if_neg (by simpa using A)]
     go_wp2_with (first|(go_at_call 246;refine(qbh _ _ (by omega)).mono ?_;rintro e w' ⟨rfl,rfl⟩)|(go_at_call 239;refine(qf6 _ _).mono ?_;rintro e w1 ⟨rfl,c⟩;refine Hid.out ?_))
     have k:=hZ ((l.out.drewN _).below c (by simp;omega));have n:=hZ (Only.of (K.out.drewN _) c);have o:=hZ ((W.out.drewN _).below c (by simp;omega));have Q:w.heap.size+1<=w1.heap.size:=by have:=c.size;simp at this;omega
     clear c;refine hZ ?_;by_cases f:∀m:q<s.size,Px.endB s[q]=true
     ·have R:Hid (Py.closed (.sym u.data.toList 0) (L s q)=.inr ([.sym u.data.toList 0],L s q)):=qcq s q _ f;have G:=hZ f;clear f;go_wp2_with (go_at_call 242;refine(qdf b s q d ⟨3,0,false,u,0,none,0,0⟩ _ k.out G.out (by omega)).mono ?_;rintro e w9 ⟨rfl,c⟩;refine Hid.out ?_)
      have H:=hZ (k.out.below c (by omega));have g:=hZ (Only.of n.out c);obtain⟨⟨Y,Z⟩,⟨y1,k1⟩,⟨y2,k2⟩,⟨y3,k3⟩,⟨y4,k4⟩,⟨y5,k5⟩,kf⟩:=o.out.below c (by omega);clear c;refine hZ ?_;go_wp2;refine bodyPost_ret (v:=.tuple #[El.v ⟨3,0,false,u,0,none,0,0⟩,.pointer none]) (by simp[results,results154,go_sem, *]) rfl ?_;rw[B.out,R.out];exact Res.ok g.out (eR _) (Nat.lt_succ_self _) hb (by rw[show 32-d=(31-d)+1 from by omega];exact .inr (.inr (.inr (.inl ⟨rfl,rfl,rfl⟩)))) H.out (by rw[qc6];omega) _ _ _ _ _ _
     ·have x:∃m:q<s.size,Px.endB s[q]=false:=by
       rcases Classical.not_forall.1 f with⟨a,ha⟩;exact⟨a,by simpa using ha⟩
      obtain⟨z,I⟩:=x;exact absurd z m
   ·rcases qk5 _ hn with⟨v,hv⟩|hv
    ·have B:Hid (Py.word (L s p)=Py.closed (.num v) (L s q)):=by
      show _=_;rw[y.out];unfold Py.wordOf;rw[hn,if_pos rfl,hv]
     have S:=Lib.parseIntB_bounds hv;have T:=hZ S;have HV:=hZ hv;clear hv S;go_wp2_with (first|(go_at_call 246;refine(qbh _ _ (by omega)).mono ?_;rintro e w' ⟨rfl,rfl⟩)|(go_at_call 247;refine(qg2 u (by omega) v HV.out _).mono ?_;rintro e w1 ⟨rfl,c⟩;refine Hid.out ?_))
     have k:=hZ ((l.out.drewN _).below c (by simp;omega));have n:=hZ (Only.of (K.out.drewN _) c);have o:=hZ ((W.out.drewN _).below c (by simp;omega));have Q:w.heap.size+1<=w1.heap.size:=by have:=c.size;simp at this;omega
     clear c;refine hZ ?_;go_wp2_with (go_at_call 248;refine(qf8 _ _).mono ?_;rintro e w2 ⟨rfl,c⟩;refine Hid.out ?_)
     have J:=hZ (k.out.below c (by omega));have a0:=hZ (Only.of n.out c);have a1:=hZ (o.out.below c (by omega));have a8:w.heap.size+1<=w2.heap.size:=by have:=c.size;omega
     clear c;refine hZ ?_;by_cases f:∀m:q<s.size,Px.endB s[q]=true
     ·have R:Hid (Py.closed (.num v) (L s q)=.inr ([.num v],L s q)):=qcq s q _ f;have G:=hZ f;clear f;go_wp2_with (go_at_call 242;refine(qdf b s q d ⟨0,v,false,⟨#[]⟩,0,none,0,0⟩ _ J.out G.out (by omega)).mono ?_;rintro e w9 ⟨rfl,c⟩;refine Hid.out ?_)
      have H:=hZ (J.out.below c (by omega));have g:=hZ (Only.of a0.out c);obtain⟨⟨Y,Z⟩,⟨y1,k1⟩,⟨y2,k2⟩,⟨y3,k3⟩,⟨y4,k4⟩,⟨y5,k5⟩,kf⟩:=a1.out.below c (by omega);clear c;refine hZ ?_;go_wp2;refine bodyPost_ret (v:=.tuple #[El.v ⟨0,v,false,⟨#[]⟩,0,none,0,0⟩,.pointer none]) (by simp[results,results154,go_sem, *]) rfl ?_;rw[B.out,R.out];exact Res.ok g.out (eR _) (Nat.lt_succ_self _) hb (by rw[show 32-d=(31-d)+1 from by omega];exact .inl ⟨rfl,rfl,by have:=T.out.1;show _<=v;simpa using this,(by have:=T.out.2;simp at this;show v<=_;omega),rfl,rfl,rfl⟩) H.out (by rw[qc6];omega) _ _ _ _ _ _
     ·have x:∃m:q<s.size,Px.endB s[q]=false:=by
       rcases Classical.not_forall.1 f with⟨a,ha⟩;exact⟨a,by simpa using ha⟩
      obtain⟨z,I⟩:=x;exact absurd z m
    ·have B:Hid (Py.word (L s p)=.inl (4,s.size-p)):=by
      show _=_;rw[y.out];unfold Py.wordOf;rw[hn,if_pos rfl,hv,M.out]
     obtain⟨tp,pv,D⟩:=(HG.out.only K.out a4 (by omega));have HV:=hZ hv;have U:=hZ D;clear hv D;go_wp2_with (first|(go_at_call 246;refine(qbh _ _ (by omega)).mono ?_;rintro e w' ⟨rfl,rfl⟩)|(go_at_call 247;refine(Tryz.strconv_ParseInt_10_at64_range_var u (by omega) HV.out tp pv _ (by exact U.out)).mono ?_;rintro e w1 ⟨N1,rfl,a3,V,c⟩;refine Hid.out ?_))
     clear a3 V;have k:=hZ ((l.out.drewN _).below c (by simp;omega));have n:=hZ (Only.of (K.out.drewN _) c);have o:=hZ ((W.out.drewN _).below c (by simp;omega));have Q:w.heap.size+1<=w1.heap.size:=by have:=c.size;simp at this;omega
     clear c;refine hZ ?_;go_wp2_with (go_at_call 147;refine(qbn _ _ _).mono ?_;rintro e w' ⟨N,rfl,C,i,c⟩;refine Hid.out ?_)
     have j:Only b w w':=Only.of (n.out) c;have r:=hZ ((k.out).below c (by first|omega|(simp;done)|(simp;omega)));have O:Box w.heap.size w':=(o.out).below c (by first|omega|(simp;done)|(simp;omega));have P:w.heap.size+1<=N:=by first|omega|(simp at C;omega)
     obtain⟨⟨Y,Z⟩,⟨y1,k1⟩,⟨y2,k2⟩,⟨y3,k3⟩,⟨y4,k4⟩,⟨y5,k5⟩,kf⟩:=O;have t:=hZ i;have g:=hZ j;clear C i c j;refine hZ ?_;go_wp2;refine bodyPost_ret (v:=.tuple #[El.nil.v,.pointer (some ⟨N,0,none⟩)]) (by simp[results,results154,go_sem, *]) rfl ?_;rw[B.out];exact Res.err g.out (eR _) (by omega) (by omega) t.out rfl (by omega) r.out (by omega) _ _ _ _ _ _
end Rd
end
end Go.Proofs.YtldaocpojcfljaaGreatDoor
