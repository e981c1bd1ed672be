import Derived.Test.YtmjepkgaobnfmaaGreatDoorProg
import Derived.Below
import Derived.Laws.Rows
import Derived.CallsIn
import Derived.Lib.ParseIntBTie
import Derived.Lib.ItoaNum
import Derived.KernelRfl
import Derived.Shelf.Strings.BuilderK
import Derived.Shelf.Small.Strs
import Derived.Shelf.Strings.Prefix
import Derived.Shelf.Strconv.Itoa4
import Derived.Shelf.Strconv.ErrVarParseInt
import Derived.WalkKit
import Derived.WalkSpells
import Derived.WalkLawsBesides
import Derived.Deep.QuietTactic
import Derived.BigQuiet
import Derived.Deep.RegionWith
import Derived.Deep.AppendLies
import Derived.Lib.Hide
import Derived.Shelf.Abstract
import Derived.StillTailTactics
import Derived.Deep.RegionHeld3
import Derived.Deep.RegionHeld2
import Derived.Deep.OwnRows
import Derived.Lib.AppendIntMem
set_option maxRecDepth 100000
set_option maxHeartbeats 4000000
namespace Go.Proofs.YtmjepkgaobnfmaaGreatDoor
section
abbrev Wd:=World
abbrev BA:=ByteArray
abbrev Vu:=Value
abbrev En:=Ending
abbrev OA:=Option Addr
open Go.RowKit
theorem hZ {p : Prop} (h : p) : Hid p := h
abbrev eE:=@Array.getElem?_eq_some_iff
abbrev eR:=@Nat.le_refl
abbrev eH:=@Below.heap_alloc
abbrev eN:=@heap_alloc_new
abbrev eG:=@List.getElem?_eq_getElem
abbrev eT:=@Nat.le_trans
abbrev eL:=@List.getElem?_eq_some_iff
abbrev eW:=@Nat.lt_of_lt_of_le
abbrev eA:=@List.getElem?_append_left
abbrev eB:=@List.getElem?_append_right
abbrev Ii(n:Int):Value:=.int .i64 n
abbrev Aa(b:Nat):Addr:=⟨b,0,none⟩
abbrev Ab(b i:Nat):Addr:=⟨b,i,none⟩
abbrev Pz(b:Nat):Value:=.pointer (some ⟨b,0,none⟩)
theorem _root_.Go.RowKit.Hid.o{p:Prop}(h:Hid p):p:=h.out
abbrev hO:=@Go.RowKit.Hid.out
abbrev Cp:=@Calls Tryz.prog
theorem aN{a b:Prop}(A:a)(B:b):Hid a/\Hid b:=⟨A,B⟩
theorem cB{a b c:Prop}(A:a)(B:b)(C:c):Hid a/\Hid b/\Hid c:=⟨A,B,C⟩
theorem dT{a b c d:Prop}(A:a)(B:b)(C:c)(D:d):Hid a/\Hid b/\Hid c/\Hid d:=⟨A,B,C,D⟩
theorem fR{a b c d e:Prop}(A:a)(B:b)(C:c)(D:d)(E:e):Hid a/\Hid b/\Hid c/\Hid d/\Hid e:=⟨A,B,C,D,E⟩
theorem gT{a b c d e f:Prop}(A:a)(B:b)(C:c)(D:d)(E:e)(F:f):Hid a/\Hid b/\Hid c/\Hid d/\Hid e/\Hid f:=⟨A,B,C,D,E,F⟩
theorem gV{a b c d e f g:Prop}(A:a)(B:b)(C:c)(D:d)(E:e)(F:f)(G:g):Hid a/\Hid b/\Hid c/\Hid d/\Hid e/\Hid f/\Hid g:=⟨A,B,C,D,E,F,G⟩
theorem hH{a b c d e f g i:Prop}(A:a)(B:b)(C:c)(D:d)(E:e)(F:f)(G:g)(I:i):Hid a/\Hid b/\Hid c/\Hid d/\Hid e/\Hid f/\Hid g/\Hid i:=⟨A,B,C,D,E,F,G,I⟩
theorem hU{a b c d e f g i j:Prop}(A:a)(B:b)(C:c)(D:d)(E:e)(F:f)(G:g)(I:i)(J:j):Hid a/\Hid b/\Hid c/\Hid d/\Hid e/\Hid f/\Hid g/\Hid i/\Hid j:=⟨A,B,C,D,E,F,G,I,J⟩
abbrev Ha(k:Nat)(c:Array Value):Value:=.func (.func k) #[] c
abbrev Hb(k:Nat)(a c:Array Value):Value:=.func (.func k) a c
abbrev Bt(w v:World):Prop:=Below w.heap.size w v
section
variable{f:Nat}{a:Array Value}{w W:World}{Q:Ending->World->Prop}{E:Ending}
theorem Ds(h:Calls Tryz.prog f a w λe v=>e=E/\v=W)(k:Q E W):Calls Tryz.prog f a w Q:=h.mono (by rintro _ _ ⟨rfl,rfl⟩;exact k)
theorem iC{T:Sort _}{g:T->World}(h:Calls Tryz.prog f a w λe v=>e=E/\∃o,v=g o)(k:∀o,Q E (g o)):Calls Tryz.prog f a w Q:=h.mono (by rintro _ _ ⟨rfl,_,rfl⟩;exact k _)
theorem iF{P:World->Prop}(h:Calls Tryz.prog f a w λe v=>e=E/\P v)(k:∀v,P v->Q E v):Calls Tryz.prog f a w Q:=h.mono (by rintro _ _ ⟨rfl,j⟩;exact k _ j)
end
section
universe u
abbrev _root_.Eq.t{α:Sort u}{a b c:α}:=@Eq.trans α a b c
end
abbrev _root_.Iff.t:=@Iff.trans
abbrev _root_.List.IsSuffix.t:=@List.IsSuffix.trans
abbrev _root_.List.IsPrefix.t:=@List.IsPrefix.trans
abbrev _root_.List.Sublist.t:=@List.Sublist.trans
abbrev _root_.Go.RowKit.Below.t:=@Go.RowKit.Below.trans
abbrev _root_.Go.RowKit.Below.mo:=@Go.RowKit.Below.mono
abbrev _root_.Go.Calls.mo:=@Go.Calls.mono
abbrev _root_.Go.CallsD.mo:=@Go.CallsD.mono
abbrev _root_.Go.CallsIn.mo:=@Go.CallsIn.mono
theorem Ce{w:World}{b i T:Nat}{cs:Array Value}{z:Nat×Nat}(h:w.heap[b]? =some (.cells cs T z)):w.cell? ⟨b,i,none⟩=cs[i]?:=by simp only[World.cell?,h];rfl
theorem Om{p:Prop}(h:p:=by omega):p:=h
theorem Sm{p:Prop}(h:p:=by simp):p:=h
theorem Kr{p:Prop}(h:p:=by kernel_rfl):p:=h
theorem Lq{p:Prop}(h:p:=by exact⟨rfl,rfl,rfl,rfl⟩):p:=h
theorem So{p:Prop}(h:p:=by simp;omega):p:=h
theorem De{p:Prop}(h:p:=by decide):p:=h
theorem Ia{p:Prop}(h:p:=by intro e;cases e;omega):p:=h
end
open Tryz hiding parts
open Go.Value renaming slice→Sl,string→Sg,iface→If,tuple→Tu,agg→Ag
open Go.Obj renaming cells→Cl
open Go.Ending renaming returned→Rt,panicked→Pk
open _root_.Option renaming some→sT,none→sV
open _root_.Bool renaming true→xA,false→xN
section
open _root_.List renaming suffix_cons→UQ,suffix_refl→UP
open _root_.Option renaming none→US

section
namespace Px
open Go
def digB(c:UInt8):Bool:=decide (48<=c.toNat/\c.toNat<=57)
def wordB(c:UInt8):Bool:=decide ((97<=c.toNat/\c.toNat<=122)\/(48<=c.toNat/\c.toNat<=57)\/c.toNat=43\/c.toNat=45\/c.toNat=42\/c.toNat=47\/c.toNat=60\/c.toNat=62\/c.toNat=61\/c.toNat=63\/c.toNat=33\/c.toNat=95\/c.toNat=46\/c.toNat=58)
def endB(c:UInt8):Bool:=decide (c.toNat=32\/c.toNat=10\/c.toNat=40\/c.toNat=41\/c.toNat=39\/c.toNat=34\/c.toNat=59)
def strB(c:UInt8):Bool:=decide (32<=c.toNat/\c.toNat<=126/\c.toNat≠34/\c.toNat≠92)
def skip:Bool->List UInt8->List UInt8
 |_,[]=>[]
 |true,c::r=>if c.toNat=10 then skip xN r else skip xA r
 |false,c::r=>if c.toNat=32\/c.toNat=10 then skip xN r else if c.toNat=59 then skip xA r else c::r
def unsign(w:List UInt8):List UInt8:=
 match w with
 | []=>[]
 |c::r=>if c.toNat=45 then r else c::r
def numB(w:List UInt8):Bool:=(unsign w).all digB&&!(unsign w).isEmpty
def quoteT:List UInt8:=[113,117,111,116,101]
end Px
end
section
namespace Px
open Go
theorem skip_idem:∀(l:List UInt8) (b:Bool),skip xN (skip b l)=skip b l
 |[],b=>by cases b<;>rfl
 |c::r,xA=>by by_cases h:c.toNat=10;simp only[skip,if_pos h];exact skip_idem r xN;simp only[skip,if_neg h];exact skip_idem r xA
 |c::r,xN=>by by_cases h:c.toNat=32\/c.toNat=10;simp only[skip,if_pos h];exact skip_idem r xN;by_cases a:c.toNat=59;simp only[skip,if_neg h,if_pos a];exact skip_idem r xA;simp only[skip,if_neg h,if_neg a]
theorem skip_suf:∀(l:List UInt8) (b:Bool),skip b l<:+l
 |[],b=>by cases b<;>exact UP _
 |c::r,xA=>by by_cases h:c.toNat=10;simp only[skip,if_pos h];exact(skip_suf r xN).t (UQ c r);simp only[skip,if_neg h];exact(skip_suf r xA).t (UQ c r)
 |c::r,xN=>by by_cases h:c.toNat=32\/c.toNat=10;simp only[skip,if_pos h];exact(skip_suf r xN).t (UQ c r);by_cases a:c.toNat=59;simp only[skip,if_neg h,if_pos a];exact(skip_suf r xA).t (UQ c r);simp only[skip,if_neg h,if_neg a];exact UP _
theorem mI(P:UInt8->Bool)(l:List UInt8):l.dropWhile P<:+l:=List.dropWhile_suffix P
end Px
end
section
inductive Dt where
 |num (v:Int)
 |bool (b:Bool)
 |str (t:List UInt8)
 |sym (t:List UInt8) (m:Int)
 |list (l:List Dt)
namespace Py
open Go
open Px (digB wordB endB strB skip unsign numB quoteT skip_idem skip_suf mI)
abbrev R:=Sum (Nat×Nat) (List Dt×List UInt8)
def closed(t:Dt)(r:List UInt8):R:=
 match r with
 | []=>.inr ([t],[])
 |c::r'=>if endB c then .inr ([t],c::r')else .inl (2,r'.length+1)
def wordOf(w r:List UInt8):R:=
 if numB w then
  match Lib.parseIntB 64 w with
  | .ok v=>closed (.num v) r
  |_=>.inl (4,w.length+r.length)
 else if 24<w.length then .inl (4,w.length+r.length)
 else closed (.sym w 0) r
def word(l:List UInt8):R:=wordOf (l.takeWhile wordB) (l.dropWhile wordB)
def str(l:List UInt8):R:=
 match l.dropWhile strB with
 | []=>.inl (3,0)
 |c::r=>if c.toNat=34 then .inr ([.str (l.takeWhile strB)],r)else .inl (2,r.length+1)
def truth(l:List UInt8):R:=
 match l with
 | []=>.inl (2,1)
 |c::r=>if c.toNat=116 then closed (.bool xA) r else if c.toNat=102 then closed (.bool xN) r else .inl (2,r.length+2)
def rd:Nat->Bool->Nat->List UInt8->R
 |0,_,_,_=>.inl (0,0)
 |f+1,xA,d,l=>
  match skip xN l with
  | []=>.inl (3,0)
  |c::r=>
   if c.toNat=41 then .inr ([],r)
   else match rd f xN d (c::r)with
    | .inl e=>.inl e
    | .inr (x,r1)=>match rd f xA d r1 with
     | .inl e=>.inl e
     | .inr (xs,r2)=>.inr (x++xs,r2)
 |f+1,xN,d,l=>
  match skip xN l with
  | []=>.inl (3,0)
  |c::r=>
   if c.toNat=40 then
    if d=30 then .inl (4,r.length+1)
    else match rd f xA (d+1) r with
     | .inl e=>.inl e
     | .inr (xs,r1)=>.inr ([.list xs],r1)
   else if c.toNat=39 then
    if d=30 then .inl (4,r.length+1)
    else match rd f xN (d+1) r with
     | .inl e=>.inl e
     | .inr (xs,r1)=>.inr ([.list (.sym quoteT 0::xs)],r1)
   else if c.toNat=34 then str r
   else if c.toNat=35 then truth r
   else if wordB c then word (c::r)
   else .inl (2,r.length+1)
def top:Nat->List UInt8->R
 |0,_=>.inl (0,0)
 |f+1,l=>
  match skip xN l with
  | []=>.inr ([],[])
  |c::r=>match rd f xN 0 (c::r)with
   | .inl e=>.inl e
   | .inr (x,r1)=>match top f r1 with
    | .inl e=>.inl e
    | .inr (xs,r2)=>.inr (x++xs,r2)
def qaj(l:List UInt8)(b:Bool)(r:R):Prop:=∀xs rr,r=.inr (xs,rr)->rr<:+l/\rr.length<l.length/\(b=xN->∃t,xs=[t])
theorem qap{l r:List UInt8}{t:Dt}{b:Bool}(h:r<:+l)(f:r.length<l.length):qaj l b (closed t r):=by intro xs g a;unfold closed at a;cases r with|nil=>simp at a;obtain⟨d,e⟩:=a;subst d;subst e;exact⟨h,f,λ_=>⟨t,rfl⟩⟩|cons c i=>simp only at a;split at a;simp at a;obtain⟨d,e⟩:=a;subst d;subst e;exact⟨h,f,λ_=>⟨t,rfl⟩⟩;simp at a
theorem qbq(c:UInt8)(r:List UInt8)(h:wordB c=xA):qaj (c::r) xN (word (c::r)):=by
 have b:(c::r).dropWhile wordB<:+(c::r):=mI _ _;have d:((c::r).dropWhile wordB).length<(c::r).length:=by (have e:(c::r).dropWhile wordB=r.dropWhile wordB:=by simp[List.dropWhile,h]);rw[e];have:=(mI wordB r).length_le;simp;omega
 unfold word wordOf;split;split;exact qap b d;intro xs f a;simp at a;split;intro xs f a;simp at a;exact qap b d
theorem qbu(c:UInt8)(r:List UInt8):qaj (c::r) xN (str r):=by intro xs h a;have b:r.dropWhile strB<:+r:=mI _ _;unfold str at a;cases hd:r.dropWhile strB with|nil=>rw[hd]at a;simp at a|cons c' d=>rw[hd]at a b;simp only at a;split at a;simp at a;obtain⟨f,g⟩:=a;subst f;subst g;have e:d<:+r:=(UQ c' d).t b;exact⟨e.t (UQ c r),by have:=e.length_le;simp;omega,λ_=>⟨_,rfl⟩⟩;simp at a
theorem qbt(c:UInt8)(r:List UInt8):qaj (c::r) xN (truth r):=by cases r with|nil=>intro xs e a;simp[truth]at a|cons c' b=>have d:b<:+(c::c'::b):=(UQ c' b).t (UQ c _);unfold truth;simp only;split;exact qap d So;split;exact qap d So;intro xs e a;simp at a
theorem rd_short:∀(f:Nat) (b:Bool) (d:Nat) (l:List UInt8),qaj l b (rd f b d l)
 |0,b,d,l=>by intro xs m a;simp[rd]at a
 |f+1,xA,d,l=>by intro xs m a;have i:=skip_suf l xN;unfold rd at a;cases hk:skip xN l with|nil=>rw[hk]at a;simp at a|cons c r=>rw[hk]at a i;simp only at a;split at a;simp at a;obtain⟨j,k⟩:=a;subst j;subst k;have q:=(UQ c r).t i;exact⟨q,by have:=i.length_le;simp at this;omega,λh=>by cases h⟩;cases h1:rd f xN d (c::r)with|inl e=>rw[h1]at a;simp at a|inr p=>obtain⟨x,o⟩:=p;rw[h1]at a;simp only at a;cases h2:rd f xA d o with|inl e=>rw[h2]at a;simp at a|inr s=>obtain⟨u,y⟩:=s;rw[h2]at a;simp at a;obtain⟨j,k⟩:=a;subst j;subst k;have n:=rd_short f xN d (c::r) _ _ h1;have v:=rd_short f xA d o _ _ h2;exact⟨(v.1.t n.1).t i,by have:=i.length_le;omega,λh=>by cases h⟩
 |f+1,xN,d,l=>by intro xs m a;have i:=skip_suf l xN;unfold rd at a;cases hk:skip xN l with|nil=>rw[hk]at a;simp at a|cons c r=>rw[hk]at a i;(have up:qaj (c::r) xN (.inr (xs,m))->m<:+l/\m.length<l.length/\(xN=xN->∃t,xs=[t]):=by intro h;have g:=h xs m rfl;exact⟨g.1.t i,by have:=i.length_le;omega,g.2.2⟩);simp only at a;split at a;split at a;simp at a;(cases h1:rd f xA (d+1) r with|inl e=>rw[h1]at a;simp at a|inr p=>obtain⟨x,o⟩:=p;rw[h1]at a;simp at a;obtain⟨j,k⟩:=a;subst j;subst k;have n:=rd_short f xA (d+1) r _ _ h1;exact⟨(n.1.t (UQ c r)).t i,by have:=i.length_le;simp at this;omega,λ_=>⟨_,rfl⟩⟩);split at a;split at a;simp at a;(cases h1:rd f xN (d+1) r with|inl e=>rw[h1]at a;simp at a|inr p=>obtain⟨x,o⟩:=p;rw[h1]at a;simp at a;obtain⟨j,k⟩:=a;subst j;subst k;have n:=rd_short f xN (d+1) r _ _ h1;exact⟨(n.1.t (UQ c r)).t i,by have:=i.length_le;simp at this;omega,λ_=>⟨_,rfl⟩⟩);split at a;exact up (a▸qbu c r);split at a;exact up (a▸qbt c r);split at a;rename_i w;exact up (a▸qbq c r w);simp at a
theorem rd_skip(f:Nat)(b:Bool)(d:Nat)(l:List UInt8):rd f b d (skip xN l)=rd f b d l:=by cases f with|zero=>cases b<;>rfl|succ f=>cases b<;>(unfold rd;rw[skip_idem])
def pre(ts:List Dt)(r:R):R:=match r with
 | .inl e=>.inl e
 | .inr (xs,rr)=>.inr (ts++xs,rr)
theorem pre_nil(r:R):pre [] r=r:=by rcases r with e|⟨xs,a⟩<;>rfl
theorem pre_pre(a b:List Dt)(r:R):pre a (pre b r)=pre (a++b) r:=by rcases r with e|⟨xs,c⟩;rfl;simp[pre]
theorem rd_true_close(f d:Nat)(c:UInt8)(r:List UInt8)(a:c.toNat=41):rd (f+1) xA d (c::r)=.inr ([],r):=by
 have h:skip xN (c::r)=c::r:=by simp only[skip];rw[if_neg Om,if_neg Om]
 unfold rd;rw[h];simp[a]
theorem rd_true_bad(f d:Nat)(l:List UInt8)(a:skip xN l=l)(b:∀c r,l=c::r->c.toNat≠41)(e:Nat×Nat)(h:rd f xN d l=.inl e)(i:1<=f):rd (f+1) xA d l=.inl e:=by unfold rd;rw[a];cases l with|nil=>obtain⟨g,rfl⟩:∃g,f=g+1:=⟨f-1,by omega⟩;unfold rd at h;rw[a]at h;simp only at h|-;rw[h]|cons c r=>simp only;rw[if_neg (b c r rfl),h]
theorem rd_true_more(f d:Nat)(l:List UInt8)(b:skip xN l=l)(g:∀c r,l=c::r->c.toNat≠41)(x:List Dt)(a:List UInt8)(h:rd f xN d l=.inr (x,a)):rd (f+1) xA d l=pre x (rd f xA d (skip xN a)):=by rw[rd_skip];cases l with|nil=>(cases f with|zero=>simp[rd]at h|succ f=>unfold rd at h;simp[skip]at h)|cons c r=>rw[rd,b];simp only;rw[if_neg (g c r rfl),h];simp only;rcases rd f xA d a with e|⟨xs,i⟩<;>rfl
def topP:Nat->List UInt8->Sum (Nat×Nat) (List (Dt×Nat)×List UInt8)
 |0,_=>.inl (0,0)
 |f+1,l=>
  match skip xN l with
  | []=>.inr ([],[])
  |c::r=>match rd f xN 0 (c::r)with
   | .inl e=>.inl e
   | .inr (x,r1)=>match topP f r1 with
    | .inl e=>.inl e
    | .inr (xs,r2)=>.inr (x.map (λt=>(t,r.length+1))++xs,r2)
def preP(ts:List (Dt×Nat))(r:Sum (Nat×Nat) (List (Dt×Nat)×List UInt8)):Sum (Nat×Nat) (List (Dt×Nat)×List UInt8):=match r with
 | .inl e=>.inl e
 | .inr (xs,rr)=>.inr (ts++xs,rr)
theorem preP_nil(r:Sum (Nat×Nat) (List (Dt×Nat)×List UInt8)):preP [] r=r:=by rcases r with e|⟨xs,a⟩<;>rfl
theorem preP_pre(a b:List (Dt×Nat))(r:Sum (Nat×Nat) (List (Dt×Nat)×List UInt8)):preP a (preP b r)=preP (a++b) r:=by rcases r with e|⟨xs,c⟩;rfl;simp[preP]
theorem topP_top:∀(f:Nat) (l:List UInt8),top f l=(match topP f l with| .inl e=>.inl e| .inr (xs,rr)=>.inr (xs.map (·.1),rr))
 |0,_=>rfl
 |f+1,l=>by rw[top,topP];cases skip xN l with|nil=>rfl|cons c r=>simp only;rcases rd f xN 0 (c::r)with e|⟨x,a⟩;rfl;simp only;rw[topP_top f a];rcases topP f a with e|⟨x2,b⟩;rfl;simp[Function.comp_def]
end Py
end
section
namespace Sc
open Go
abbrev Bs:=List UInt8
inductive Pm where
 |add
 |sub
 |mul
 |quot
 |rem
 |eql
 |lss
 |cons
 |car
 |cdr
 |nullQ
 |pairQ
 |intQ
 |symQ
 |strQ
 |boolQ
 |procQ
 |sealQ
 |not
 |eqQ
 |equalQ
 |list
 |length
 |append
 |strAppend
 |strLength
 |numStr
 |symStr
 |apply
 |callcc
 |wind
 |error
 |seal
 |write
 |readLine
 |tick
 |roll
 |unseal
def Pm.name:Pm->Bs
 | .add=>[43]
 | .sub=>[45]
 | .mul=>[42]
 | .quot=>[113,117,111,116,105,101,110,116]
 | .rem=>[114,101,109,97,105,110,100,101,114]
 | .eql=>[61]
 | .lss=>[60]
 | .cons=>[99,111,110,115]
 | .car=>[99,97,114]
 | .cdr=>[99,100,114]
 | .nullQ=>[110,117,108,108,63]
 | .pairQ=>[112,97,105,114,63]
 | .intQ=>[105,110,116,101,103,101,114,63]
 | .symQ=>[115,121,109,98,111,108,63]
 | .strQ=>[115,116,114,105,110,103,63]
 | .boolQ=>[98,111,111,108,101,97,110,63]
 | .procQ=>[112,114,111,99,101,100,117,114,101,63]
 | .sealQ=>[115,101,97,108,63]
 | .not=>[110,111,116]
 | .eqQ=>[101,113,63]
 | .equalQ=>[101,113,117,97,108,63]
 | .list=>[108,105,115,116]
 | .length=>[108,101,110,103,116,104]
 | .append=>[97,112,112,101,110,100]
 | .strAppend=>[115,116,114,105,110,103,45,97,112,112,101,110,100]
 | .strLength=>[115,116,114,105,110,103,45,108,101,110,103,116,104]
 | .numStr=>[110,117,109,98,101,114,45,62,115,116,114,105,110,103]
 | .symStr=>[115,121,109,98,111,108,45,62,115,116,114,105,110,103]
 | .apply=>[97,112,112,108,121]
 | .callcc=>[99,97,108,108,47,99,99]
 | .wind=>[100,121,110,97,109,105,99,45,119,105,110,100]
 | .error=>[101,114,114,111,114]
 | .seal=>[115,101,97,108]
 | .write=>[119,114,105,116,101]
 | .readLine=>[114,101,97,100,45,108,105,110,101]
 | .tick=>[116,105,99,107]
 | .roll=>[114,111,108,108]
 | .unseal=>[117,110,115,101,97,108]
inductive Ex where
 |quo (d:Dt)
 |loc (up n:Nat)
 |glo (s:Bs)
 |ite (c t:Ex) (e:Option Ex)
 |setL (up n:Nat) (x:Ex)
 |setG (s:Bs) (x:Ex)
 |defG (s:Bs) (x:Ex)
 |lam (n:Nat) (rest:Bool) (body:List Ex)
 |app (f:Ex) (l:List Ex)
 |seq (x:Ex) (l:List Ex)
 |skip
inductive Tg where
 |loc (up n:Nat)
 |glo (s:Bs)
 |def' (s:Bs)
mutual
inductive Vl where
 |num (n:Int)
 |bool (b:Bool)
 |str (s:Bs)
 |sym (s:Bs)
 |nil
 |none
 |pair (id:Nat) (a b:Vl)
 |lam (id n:Nat) (rest:Bool) (body:List Ex) (env:Option Nat)
 |prim (p:Pm)
 |cont (id:Nat) (k:List Fr) (w:List Wn)
 |seal (id:Nat) (v:Vl)
 |sealD (id:Nat) (d:Dt)
 |grant (n:Nat)
inductive Fr where
 |ite (t:Ex) (e:Option Ex) (env:Option Nat)
 |set (t:Tg) (env:Option Nat)
 |body (l:List Ex) (env:Option Nat)
 |app (vs:List Vl) (l:List Ex) (env:Option Nat)
 |wind1 (a b c:Vl)
 |wind2 (c:Vl) (w:List Wn)
 |wind3 (v:Vl)
 |back (to:List Wn) (v:Vl) (k:List Fr)
 |into (now to:List Wn) (v:Vl) (k:List Fr)
inductive Wn where
 |mk (id:Nat) (a c:Vl)
end
def Wn.id:Wn->Nat| .mk i _ _=>i
def Wn.a:Wn->Vl| .mk _ a _=>a
def Wn.c:Wn->Vl| .mk _ _ c=>c
structure Ev where
 kind:Nat
 num:Int
 text:Bs
structure Sub where
 text:Bs
 secrets:List Bs
 lines:List Bs
 ticks:List Int
 draws:List Int
 grants:Int
 fuel:Int
 rewrites:Int
 quota:Int
 room:Int
structure Mc where
 steps:Nat:=0
 cells:Nat:=0
 out:Bs:=[]
 evs:List Ev:=[]
 glob:List (Bs×Vl):=[]
 envs:List (List Vl×Option Nat):=[]
 ids:Nat:=0
 wnd:List Wn:=[]
 lines:Nat:=0
 ticks:Nat:=0
 draws:Nat:=0
 raised:Bs:=[]
inductive Ct where
 |ev (x:Ex) (env:Option Nat) (k:List Fr)
 |ret (v:Vl) (k:List Fr)
 |ap (f:Vl) (l:List Vl) (k:List Fr)
 |done (v:Vl)
 |stop (verdict:Nat)
def step(S:Sub)(m:Mc):Except Nat Unit×Mc:=if(m.steps:Int)<S.fuel then(.ok (),{m with steps:=m.steps+1})else(.error 10,m)
def cell(S:Sub)(m:Mc):Except Nat Unit×Mc:=if(m.cells:Int)<S.quota then(.ok (),{m with cells:=m.cells+1})else(.error 11,m)
def eQ(S:Sub):Nat->Mc->Except Nat Unit×Mc
 |0,m=>(.ok (),m)
 |n+1,m=>match cell S m with
  |(.ok _,m)=>eQ S n m
  |(.error e,m)=>(.error e,m)
def bK(m:Mc)(l:List Vl)(rest:Vl):Vl×Mc:=l.foldr (λv (r:Vl×Mc)=>(.pair r.2.ids v r.1,{r.2 with ids:=r.2.ids+1})) (rest,m)
mutual
def aH:Dt->Nat
 | .list l=>aJ l
 |_=>0
def aJ:List Dt->Nat
 | []=>0
 |d::r=>1+aH d+aJ r
end
mutual
def bW(m:Mc):Dt->Vl×Mc
 | .num v=>(.num v,m)
 | .bool b=>(.bool b,m)
 | .str t=>(.str t,m)
 | .sym t _=>(.sym t,m)
 | .list l=>let (vs,m):=cT m l;bK m vs .nil
def cT(m:Mc):List Dt->List Vl×Mc
 | []=>([],m)
 |d::r=>let (v,m):=bW m d;let (vs,m):=cT m r;(v::vs,m)
end
def atom:Vl->Bs
 | .num n=>Lib.itoa n
 | .bool b=>if b then [35,116]else [35,102]
 | .str s=>34::(s++[34])
 | .sym s=>s
 | .nil=>[40,41]
 | .none=>([35,60,110,111,116,104,105,110,103,62]:Bs)
 | .lam ..=>([35,60,112,114,111,99,101,100,117,114,101,62]:Bs)
 | .prim ..=>([35,60,112,114,111,99,101,100,117,114,101,62]:Bs)
 | .cont ..=>([35,60,112,114,111,99,101,100,117,114,101,62]:Bs)
 | .seal ..=>([35,60,115,101,97,108,62]:Bs)
 | .sealD ..=>([35,60,115,101,97,108,62]:Bs)
 | .grant ..=>([35,60,103,114,97,110,116,62]:Bs)
 | .pair ..=>[]
mutual
def wr:Vl->Bs
 | .pair _ a b=>40::(wr a++tl b)
 | .num n=>atom (.num n)| .bool n=>atom (.bool n)| .str n=>atom (.str n)| .sym n=>atom (.sym n)| .nil=>atom .nil| .none=>atom .none
 | .lam ..=>([35,60,112,114,111,99,101,100,117,114,101,62]:Bs)| .prim ..=>([35,60,112,114,111,99,101,100,117,114,101,62]:Bs)| .cont ..=>([35,60,112,114,111,99,101,100,117,114,101,62]:Bs)| .seal ..=>([35,60,115,101,97,108,62]:Bs)| .sealD ..=>([35,60,115,101,97,108,62]:Bs)| .grant ..=>([35,60,103,114,97,110,116,62]:Bs)
def tl:Vl->Bs
 | .pair _ a b=>32::(wr a++tl b)
 | .nil=>[41]
 | .num n=>[32,46,32]++(atom (.num n)++[41])| .bool n=>[32,46,32]++(atom (.bool n)++[41])| .str n=>[32,46,32]++(atom (.str n)++[41])| .sym n=>[32,46,32]++(atom (.sym n)++[41])| .none=>[32,46,32]++(atom .none++[41])
 | .lam ..=>[32,46,32]++(([35,60,112,114,111,99,101,100,117,114,101,62]:Bs)++[41])| .prim ..=>[32,46,32]++(([35,60,112,114,111,99,101,100,117,114,101,62]:Bs)++[41])| .cont ..=>[32,46,32]++(([35,60,112,114,111,99,101,100,117,114,101,62]:Bs)++[41])
 | .seal ..=>[32,46,32]++(([35,60,115,101,97,108,62]:Bs)++[41])| .sealD ..=>[32,46,32]++(([35,60,115,101,97,108,62]:Bs)++[41])| .grant ..=>[32,46,32]++(([35,60,103,114,97,110,116,62]:Bs)++[41])
end
def lookup(s:Bs):List (Bs×Vl)->Option Vl
 | []=>US
 |(t,v)::r=>if t=s then sT v else lookup s r
def put(s:Bs)(v:Vl):List (Bs×Vl)->List (Bs×Vl)
 | []=>[(s,v)]
 |(t,u)::r=>if t=s then(t,v)::r else(t,u)::put s v r
def oN(m:Mc):Option Nat->Nat->Option Nat
 |e,0=>e
 |US,_=>US
 |some i,n+1=>oN m (m.envs[i]?.bind (·.2)) n
def lY(m:Mc)(env:Option Nat)(up n:Nat):Vl:=match oN m env up with
 |some i=>((m.envs[i]?.map (·.1)).bind (·[n]?)).getD .none
 |US=>.none
def lS(m:Mc)(env:Option Nat)(up n:Nat)(v:Vl):Mc:=match oN m env up with
 |some i=>{m with envs:=m.envs.modify i λ(l,u)=>(l.set n v,u)}
 |US=>m
def eq:Vl->Vl->Bool
 | .num a,.num b=>a==b
 | .bool a,.bool b=>a==b
 | .str a,.str b=>a==b
 | .sym a,.sym b=>a==b
 | .nil,.nil=>xA
 | .none,.none=>xA
 | .pair i _ _,.pair j _ _=>i==j
 | .lam i _ _ _ _,.lam j _ _ _ _=>i==j
 | .prim a,.prim b=>a.name==b.name
 | .cont i _ _,.cont j _ _=>i==j
 | .seal i _,.seal j _=>i==j
 | .sealD i _,.sealD j _=>i==j
 | .grant a,.grant b=>a==b
 |_,_=>xN
def equal(S:Sub):Vl->Vl->Mc->Except Nat Bool×Mc
 | .pair _ a b,.pair _ c d,m=>match step S m with
  |(.error e,m)=>(.error e,m)
  |(.ok _,m)=>match equal S a c m with
   |(.error e,m)=>(.error e,m)
   |(.ok xN,m)=>(.ok xN,m)
   |(.ok xA,m)=>equal S b d m
 |a,b,m=>(.ok (eq a b),m)
def bJ(S:Sub)(cells:Bool):Vl->Mc->Except Nat (List Vl)×Mc
 | .pair _ a b,m=>match step S m with
  |(.error e,m)=>(.error e,m)
  |(.ok _,m)=>match (if cells then cell S m else(.ok (),m))with
   |(.error e,m)=>(.error e,m)
   |(.ok _,m)=>match bJ S cells b m with
    |(.error e,m)=>(.error e,m)
    |(.ok l,m)=>(.ok (a::l),m)
 | .nil,m=>(.ok [],m)
 |_,m=>(.error 6,m)
def eZ:Vl->Bool| .lam ..=>xA| .prim ..=>xA| .cont ..=>xA|_=>xN
def UH:Vl->Bool| .seal ..=>xA| .sealD ..=>xA|_=>xN
inductive Kd where
 |any
 |num
 |str
 |sym
 |pair
 |proc
 |grant
 |seal
def Kd.ok:Kd->Vl->Bool
 | .any,_=>xA
 | .num,.num _=>xA
 | .str,.str _=>xA
 | .sym,.sym _=>xA
 | .pair,.pair ..=>xA
 | .proc,v=>eZ v
 | .grant,.grant _=>xA
 | .seal,v=>UH v
 |_,_=>xN
def Pm.kinds:Pm->List Kd
 | .add=>[.num,.num]| .sub=>[.num,.num]| .mul=>[.num,.num]| .quot=>[.num,.num]| .rem=>[.num,.num]| .eql=>[.num,.num]| .lss=>[.num,.num]
 | .cons=>[.any,.any]| .eqQ=>[.any,.any]| .equalQ=>[.any,.any]| .append=>[.any,.any]
 | .car=>[.pair]| .cdr=>[.pair]
 | .strAppend=>[.str,.str]| .strLength=>[.str]| .numStr=>[.num]| .symStr=>[.sym]
 | .apply=>[.proc,.any]| .callcc=>[.proc]| .wind=>[.proc,.proc,.proc]
 | .write=>[.grant,.any]| .readLine=>[.grant]| .tick=>[.grant]| .roll=>[.grant,.num]| .unseal=>[.grant,.seal]
 |_=>[.any]
def Pm.grant:Pm->Nat
 | .write=>1| .readLine=>2| .tick=>4| .roll=>8| .unseal=>16
 |_=>0
def Pm.isList:Pm->Bool
 | .list=>xA
 |_=>xN
def nC(n:Int):Bool:=decide (-9223372036854775808<=n/\n<=9223372036854775807)
def num(n:Int):Except Nat Vl:=if nC n then .ok (.num n)else .error 8
def lH(m:Mc)(k:Nat)(n:Int)(t:Bs):Mc:={m with evs:=m.evs++[⟨k,n,t⟩]}
def zM(S:Sub):Bs->Mc->Except Nat Unit×Mc
 | [],m=>(.ok (),m)
 |c::r,m=>match step S m with
  |(.error e,m)=>(.error e,m)
  |(.ok _,m)=>if(m.out.length:Int)<S.room then zM S r {m with out:=m.out++[c]}else(.error 13,m)
def new(S:Sub)(m:Mc)(v:Mc->Vl×Mc):Except Nat Vl×Mc:=match cell S m with
 |(.error e,m)=>(.error e,m)
 |(.ok _,m)=>let (v,m):=v m;(.ok v,m)
def aI(S:Sub)(m:Mc):Pm->List Vl->Except Nat Vl×Mc
 | .add,[.num a,.num b]=>(num (a+b),m)
 | .sub,[.num a,.num b]=>(num (a-b),m)
 | .mul,[.num a,.num b]=>(num (a*b),m)
 | .quot,[.num a,.num b]=>(if b=0 then .error 8 else num (a.tdiv b),m)
 | .rem,[.num a,.num b]=>(if b=0 then .error 8 else .ok (.num (a.tmod b)),m)
 | .eql,[.num a,.num b]=>(.ok (.bool (a==b)),m)
 | .lss,[.num a,.num b]=>(.ok (.bool (decide (a<b))),m)
 | .cons,[a,b]=>new S m λm=>(.pair m.ids a b,{m with ids:=m.ids+1})
 | .car,[.pair _ a _]=>(.ok a,m)
 | .cdr,[.pair _ _ b]=>(.ok b,m)
 | .eqQ,[a,b]=>(.ok (.bool (eq a b)),m)
 | .equalQ,[a,b]=>match equal S a b m with
  |(.error e,m)=>(.error e,m)
  |(.ok b,m)=>(.ok (.bool b),m)
 | .list,l=>match eQ S l.length m with
  |(.error e,m)=>(.error e,m)
  |(.ok _,m)=>let (v,m):=bK m l .nil;(.ok v,m)
 | .length,[a]=>match bJ S xN a m with
  |(.error e,m)=>(.error e,m)
  |(.ok l,m)=>(.ok (.num l.length),m)
 | .append,[a,b]=>match bJ S xA a m with
  |(.error e,m)=>(.error e,m)
  |(.ok l,m)=>let (v,m):=bK m l b;(.ok v,m)
 | .error,[a]=>(.error 14,{m with raised:=(wr a).take 1200})
 | .seal,[a]=>new S m λm=>(.seal m.ids a,{m with ids:=m.ids+1})
 | .strAppend,[.str x,.str y]=>if x.length+y.length<=1200 then new S m λm=>(.str (x++y),m)else(.error 8,m)
 | .strLength,[.str x]=>(.ok (.num x.length),m)
 | .numStr,[.num n]=>new S m λm=>(.str (Lib.itoa n),m)
 | .symStr,[.sym x]=>new S m λm=>(.str x,m)
 | .not,[a]=>(.ok (.bool (match a with| .bool xN=>xA|_=>xN)),m)
 | .nullQ,[a]=>(.ok (.bool (match a with| .nil=>xA|_=>xN)),m)
 | .pairQ,[a]=>(.ok (.bool (Kd.ok .pair a)),m)
 | .intQ,[a]=>(.ok (.bool (Kd.ok .num a)),m)
 | .symQ,[a]=>(.ok (.bool (Kd.ok .sym a)),m)
 | .strQ,[a]=>(.ok (.bool (Kd.ok .str a)),m)
 | .boolQ,[a]=>(.ok (.bool (match a with| .bool _=>xA|_=>xN)),m)
 | .procQ,[a]=>(.ok (.bool (eZ a)),m)
 | .sealQ,[a]=>(.ok (.bool (UH a)),m)
 | .write,[_,v]=>match zM S (wr v) m with
  |(.error e,m)=>(.error e,m)
  |(.ok _,m)=>(.ok .none,lH m 1 0 (wr v))
 | .readLine,[_]=>match S.lines[m.lines]? with
  |US=>(.ok (.bool xN),lH m 2 m.lines [])
  |some t=>match cell S m with
   |(.error e,m)=>(.error e,m)
   |(.ok _,m)=>(.ok (.str t),lH {m with lines:=m.lines+1} 2 ((m.lines:Int)+1) t)
 | .tick,[_]=>match S.ticks[m.ticks]? with
  |US=>(.ok (.num 0),lH m 4 0 [])
  |some n=>(.ok (.num n),lH {m with ticks:=m.ticks+1} 4 n [])
 | .roll,[_,.num n]=>if n<1 then(.error 8,m)else
  let v:=S.draws[m.draws]?.getD 0
  let m:=if m.draws<S.draws.length then {m with draws:=m.draws+1}else m
  let v:=if v<0 then-(v+1)else v
  (.ok (.num (v.tmod n)),lH m 8 (v.tmod n) [])
 | .unseal,[_,.seal _ v]=>(.ok v,lH m 16 0 [])
 | .unseal,[_,.sealD _ d]=>match eQ S (aH d) m with
  |(.error e,m)=>(.error e,m)
  |(.ok _,m)=>let (v,m):=bW m d;(.ok v,lH m 16 0 [])
 |_,_=>(.error 6,m)
def bT(S:Sub)(f:Vl)(l:List Vl)(k:List Fr)(m:Mc):Ct×Mc:=match step S m with
 |(.error e,m)=>(.stop e,m)
 |(.ok _,m)=>if eZ f then(.ap f l k,m)else(.stop 6,m)
def iE(l:List Ex)(env:Option Nat)(k:List Fr):Ct:=match l with
 | []=>.ret .none k
 | [x]=>.ev x env k
 |x::r=>.ev x env (.body r env::k)
def rewind(S:Sub)(to:List Wn)(v:Vl)(k:List Fr)(m:Mc):Ct×Mc:=
 match m.wnd with
 |w::ws=>if to.any (λu=>u.id==w.id)then enter to v k m else bT S w.c [] [.back to v k] {m with wnd:=ws}
 | []=>enter to v k m
 where
 enter (to:List Wn) (v:Vl) (k:List Fr) (m:Mc):Ct×Mc:=
  if to.length<=m.wnd.length then(.ret v k,m)
  else match to.drop (to.length-m.wnd.length-1)with
   |w::ws=>bT S w.a [] [.into (w::ws) to v k] m
   | []=>(.ret v k,m)
def uZ(p:Pm):List Vl->Bool
 | .grant g::_=>g==p.grant
 |_=>xN
def aW(S:Sub)(f:Vl)(l:List Vl)(k:List Fr)(m:Mc):Ct×Mc:=match f with
 | .lam _ n rest body env=>
  if rest then match eQ S (1+l.length) m with
   |(.error e,m)=>(.stop e,m)
   |(.ok _,m)=>let (v,m):=bK m l .nil;(iE body (sT m.envs.length) k,{m with envs:=m.envs++[([v],env)]})
  else if l.length≠n then(.stop 7,m)
  else match eQ S n m with
   |(.error e,m)=>(.stop e,m)
   |(.ok _,m)=>(iE body (sT m.envs.length) k,{m with envs:=m.envs++[(l,env)]})
 | .cont _ at' w=>match l with
  | [v]=>rewind S w v at' m
  |_=>(.stop 7,m)
 | .prim p=>
  if !p.isList&&l.length !=p.kinds.length then(.stop 7,m)
  else if p.grant !=0&&!uZ p l then(.stop 9,m)
  else if !p.isList&&(List.zip p.kinds l).any (λq=>!q.1.ok q.2)then(.stop 6,m)
  else match p,l with
   | .apply,[f,x]=>match bJ S xN x m with
    |(.error e,m)=>(.stop e,m)
    |(.ok a,m)=>bT S f a k m
   | .callcc,[f]=>match cell S m with
    |(.error e,m)=>(.stop e,m)
    |(.ok _,m)=>bT S f [.cont m.ids k m.wnd] k {m with ids:=m.ids+1}
   | .wind,[a,b,c]=>bT S a [] (.wind1 a b c::k) m
   |p,l=>match aI S m p l with
    |(.error e,m)=>(.stop e,m)
    |(.ok v,m)=>(.ret v k,m)
 |_=>(.stop 6,m)
def next(S:Sub):Ct->Mc->Ct×Mc
 | .done v,m=>(.done v,m)
 | .stop e,m=>(.stop e,m)
 | .ap f l k,m=>aW S f l k m
 | .ret v [],m=>(.done v,m)
 | .ret v (.ite t e env::k),m=>(match v with
   | .bool xN=>(match e with|some e=>.ev e env k|US=>.ret .none k)
   |_=>.ev t env k,m)
 | .ret v (.set t env::k),m=>match t with
  | .loc up n=>(.ret .none k,lS m env up n v)
  | .def' s=>(.ret .none k,{m with glob:=put s v m.glob})
  | .glo s=>if(lookup s m.glob).isSome then(.ret .none k,{m with glob:=put s v m.glob})else(.stop 5,m)
 | .ret _ (.body l env::k),m=>(iE l env k,m)
 | .ret v (.app vs [] _::k),m=>match vs++[v]with
  |f::l=>bT S f l k m
  | []=>(.stop 7,m)
 | .ret v (.app vs (x::r) env::k),m=>(.ev x env (.app (vs++[v]) r env::k),m)
 | .ret _ (.wind1 a b c::k),m=>bT S b [] (.wind2 c m.wnd::k) {m with wnd:=.mk m.ids a c::m.wnd,ids:=m.ids+1}
 | .ret v (.wind2 c w::k),m=>bT S c [] (.wind3 v::k) {m with wnd:=w}
 | .ret _ (.wind3 v::k),m=>(.ret v k,m)
 | .ret _ (.back to v k::_),m=>rewind S to v k m
 | .ret _ (.into now to v k::_),m=>rewind S to v k {m with wnd:=now}
 | .ev .skip _ [],m=>(.ret .none [],m)
 | .ev x env k,m=>match step S m with
  |(.error e,m)=>(.stop e,m)
  |(.ok _,m)=>match x with
   | .quo d=>match eQ S (aH d) m with
    |(.error e,m)=>(.stop e,m)
    |(.ok _,m)=>let (v,m):=bW m d;(.ret v k,m)
   | .loc up n=>(.ret (lY m env up n) k,m)
   | .glo s=>match lookup s m.glob with
    |some v=>(.ret v k,m)
    |US=>(.stop 5,m)
   | .ite c t e=>(.ev c env (.ite t e env::k),m)
   | .setL up n x=>(.ev x env (.set (.loc up n) env::k),m)
   | .setG s x=>(.ev x env (.set (.glo s) env::k),m)
   | .defG s x=>(.ev x env (.set (.def' s) env::k),m)
   | .lam n rest body=>match cell S m with
    |(.error e,m)=>(.stop e,m)
    |(.ok _,m)=>(.ret (.lam m.ids n rest body env) k,{m with ids:=m.ids+1})
   | .app f l=>(.ev f env (.app [] l env::k),m)
   | .seq x l=>(iE (x::l) env k,m)
   | .skip=>(.ret .none k,m)
def go(S:Sub):Nat->Ct->Mc->Ct×Mc
 |0,c,m=>(c,m)
 |n+1,c,m=>match c with
  | .done v=>(.done v,m)
  | .stop e=>(.stop e,m)
  |c=>let (c,m):=next S c m;go S n c m
end Sc
end
section
namespace Sc
open Go
inductive Kw where
 |quote
 |ite
 |dK
 |set
 |cK
 |let'
 |begin
 |synx'
def Kw.of(s:Bs):Option Kw:=
 if s=[113,117,111,116,101]then sT .quote
 else if s=[105,102]then sT .ite
 else if s=[100,101,102,105,110,101]then sT .dK
 else if s=[115,101,116,33]then sT .set
 else if s=[108,97,109,98,100,97]then sT .cK
 else if s=[108,101,116]then sT .let'
 else if s=[98,101,103,105,110]then sT .begin
 else if s=[100,101,102,105,110,101,45,115,121,110,116,97,120]then sT .synx'
 else US
abbrev Id:=Bs×Int
abbrev aF:=List (List Id)
def cX(i:Id):List Id->Option Nat
 | []=>US
 |j::r=>if j=i then sT 0 else(cX i r).map (·+1)
def find(i:Id):aF->Option (Nat×Nat)
 | []=>US
 |l::r=>match cX i l with
  |some n=>sT (0,n)
  |US=>(find i r).map (λp=>(p.1+1,p.2))
inductive Tr where
 |one (d:Dt)
 |row (l:List Tr)
structure Macro where
 name:Bs
 lits:List Bs
 rules:List (List Dt×Dt)
structure Xs where
 count:Nat:=0
 macros:List Macro:=[]
def Xs.mcr(x:Xs)(s:Bs):Option Macro:=x.macros.find? (λm=>m.name==s)
def Xs.drop(x:Xs)(s:Bs):Xs:={x with macros:=x.macros.filter (λm=>!(m.name==s))}
inductive Mn where
 |var
 |kw (k:Kw)
 |mac (m:Macro)
def Xs.means(x:Xs)(i:Id)(sc:aF):Mn:=match find i sc with
 |some _=>.var
 |US=>match Kw.of i.1 with
  |some k=>.kw k
  |US=>match x.mcr i.1 with
   |some m=>.mac m
   |US=>.var
def cF:Bs:=[46,46,46]
def aV:Dt->Bool
 | .sym t _=>t==cF
 |_=>xN
def nI(i:Id)(deep:Nat)(had:List (Id×Nat)):Option (List (Id×Nat)):=if had.any (λb=>b.1==i)then US else sT (had++[(i,deep)])
mutual
def bA(lits:List Bs)(deep:Nat)(had:List (Id×Nat)):Dt->Option (List (Id×Nat))
 | .list l=>bY lits deep had l
 | .sym t m=>if lits.contains t||t== [95]then sT had else nI (t,m) deep had
 |_=>sT had
def bY(lits:List Bs)(deep:Nat)(had:List (Id×Nat)):List Dt->Option (List (Id×Nat))
 | []=>sT had
 | [p]=>if aV p then US else bA lits deep had p
 |p::q::r=>
  if aV p then US
  else if r.isEmpty&&aV q then bA lits (deep+1) had p
  else match bA lits deep had p with
   |US=>US
   |some had=>bY lits deep had (q::r)
end
def oW(i:Id)(b:List (Id×Nat)):Option Nat:=(b.find? (λp=>p.1==i)).map (·.2)
mutual
def mH(b:List (Id×Nat))(deep:Nat):Dt->Option Bool
 | .sym t m=>if t==cF then US else match oW (t,m) b with
  |US=>sT xN
  |some n=>if n==0 then sT xN else if n==deep then sT xA else US
 | .list l=>nB b deep l
 |_=>sT xN
def nB(b:List (Id×Nat))(deep:Nat):List Dt->Option Bool
 | []=>sT xN
 | [t]=>mH b deep t
 |t::q::r=>
  if aV q then
   match mH b (deep+1) t with
   |some xA=>(nB b deep r).map (λ_=>xA)
   |_=>US
  else match mH b deep t with
   |US=>US
   |some a=>(nB b deep (q::r)).map (λc=>a||c)
end
def iJ(lits:List Bs):Dt->Option (List Dt×Dt)
 | .list [.list (.sym t _::p),tm]=>
  if t==cF then US
  else match bY lits 0 [] p with
   |US=>US
   |some b=>match mH b 0 tm with
    |US=>US
    |some _=>sT (p,tm)
 |_=>US
def cA:List Dt->Option (List Bs)
 | []=>sT []
 | .sym t _::r=>if t==cF then US else(cA r).map (t::·)
 |_=>US
def eU(lits:List Bs):List Dt->Option (List (List Dt×Dt))
 | []=>sT []
 |d::r=>match iJ lits d with
  |US=>US
  |some x=>(eU lits r).map (x::·)
abbrev bS:=List (Id×Tr)
mutual
def bF(lits:List Bs)(sc:aF):Dt->Dt->Option bS
 | .list p,.list l=>bL lits sc p l
 | .list _,_=>US
 | .num a,.num b=>if a==b then sT []else US
 | .bool a,.bool b=>if a==b then sT []else US
 | .str a,.str b=>if a==b then sT []else US
 | .sym t m,d=>
  if lits.contains t then
   match d with
   | .sym u k=>if u==t&&(find (u,k) sc).isNone then sT []else US
   |_=>US
  else if t== [95]then sT []
  else sT [((t,m),.one d)]
 |_,_=>US
def bL(lits:List Bs)(sc:aF):List Dt->List Dt->Option bS
 | [],[]=>sT []
 | [],_::_=>US
 | [p],[d]=>bF lits sc p d
 | [_],_=>US
 |p::q::r,l=>
  if r.isEmpty&&aV q then
   match l.mapM (λd=>bF lits sc p d)with
   |US=>US
   |some rows=>sT ((((bA lits 0 [] p).getD []).zipIdx).map (λb=>(b.1.1,.row (rows.map (λt=>(t[b.2]?.map (·.2)).getD (.row []))))))
  else match l with
   | []=>US
   |d::l=>match bF lits sc p d with
    |US=>US
    |some a=>(bL lits sc (q::r) l).map (a++·)
end
mutual
def cE(i:Id):Dt->Bool
 | .sym t m=>(t,m)==i
 | .list l=>eJ i l
 |_=>xN
def eJ(i:Id):List Dt->Bool
 | []=>xN
 |d::r=>cE i d||eJ i r
end
def rowLen(t:Dt):bS->Option (Option Nat)
 | []=>sT US
 |(i,.row l)::r=>match rowLen t r with
  |US=>US
  |some n=>if cE i t then(match n with
    |US=>sT (sT l.length)
    |some k=>if k==l.length then sT (sT k)else US)
   else sT n
 |(_,.one _)::r=>rowLen t r
def gH(t:Dt)(k:Nat):bS->bS
 | []=>[]
 |(i,.row l)::r=>(if cE i t then(i,l[k]?.getD (.row []))else(i,.row l))::gH t k r
 |(i,.one d)::r=>(i,.one d)::gH t k r
mutual
def cW(mark:Int)(b:bS):Dt->Option Dt
 | .sym t m=>match b.find? (λx=>x.1==(t,m))with
  |US=>sT (.sym t mark)
  |some (_,.one d)=>sT d
  |some (_,.row _)=>US
 | .list l=>(iK mark b l).map .list
 |d=>sT d
def iK(mark:Int)(b:bS):List Dt->Option (List Dt)
 | []=>sT []
 | [t]=>(cW mark b t).map ([·])
 |t::q::r=>
  if aV q then
   match rowLen t b with
   |US=>US
   |some n=>match (List.range (n.getD 0)).mapM (λk=>cW mark (gH t k b) t)with
    |US=>US
    |some a=>(iK mark b r).map (a++·)
  else match cW mark b t with
   |US=>US
   |some a=>(iK mark b (q::r)).map (a::·)
end
mutual
def aX:Dt->Nat
 | .list l=>1+aO l
 |_=>1
def aO:List Dt->Nat
 | []=>0
 |d::r=>aX d+aO r
end
def eI(S:Sub)(x:Xs)(mc:Macro)(args:List Dt)(sc:aF):Except Nat (Dt×Xs)×Xs:=
 if S.rewrites<=(x.count:Int)then(.error 12,x)
 else
  let x:={x with count:=x.count+1}
  match mc.rules.findSome? (λr=>(bL mc.lits sc r.1 args).map (λb=>(b,r.2)))with
  |US=>(.error 4,x)
  |some (b,t)=>match cW x.count b t with
   |US=>(.error 4,x)
   |some d=>if aX d<=600 then(.ok (d,x),x)else(.error 4,x)
def qW:Dt->Option Id
 | .sym t m=>sT (t,m)
 |_=>US
def distinct:List Id->Bool
 | []=>xA
 |i::r=>!r.contains i&&distinct r
def dI:List Dt->Option (List Id)
 | []=>sT []
 | .sym t m::r=>(dI r).map ((t,m)::·)
 |_=>US
def iG:List Dt->Option (List Dt×List Dt)
 | []=>sT ([],[])
 | .list [n,v]::r=>(iG r).map (λp=>(n::p.1,v::p.2))
 |_=>US
def dP(x:Xs)(i:Id)(sc:aF):Option Ex:=match x.means i sc with
 | .var=>sT (match find i sc with|some (u,n)=>.loc u n|US=>.glo i.1)
 |_=>US
mutual
def form(S:Sub):Nat->Xs->aF->Dt->Except Nat Ex×Xs
 |0,x,_,_=>(.error 0,x)
 |f+1,x,sc,d=>match d with
  | .sym t m=>(match dP x (t,m) sc with|some e=>.ok e|US=>.error 4,x)
  | .list []=>(.error 4,x)
  | .list (.sym t m::r)=>match x.means (t,m) sc with
   | .var=>app S f x sc (.sym t m::r)
   | .mac mc=>match eI S x mc r sc with
    |(.error e,x)=>(.error e,x)
    |(.ok (d,x),_)=>form S f x sc d
   | .kw k=>bP S f x sc k r
  | .list l=>app S f x sc l
  |d=>(.ok (.quo d),x)
def app(S:Sub):Nat->Xs->aF->List Dt->Except Nat Ex×Xs
 |0,x,_,_=>(.error 0,x)
 |f+1,x,sc,l=>match bG S f x sc l with
  |(.ok (e::r),x)=>(.ok (.app e r),x)
  |(.ok [],x)=>(.error 4,x)
  |(.error e,x)=>(.error e,x)
def bG(S:Sub):Nat->Xs->aF->List Dt->Except Nat (List Ex)×Xs
 |0,x,_,_=>(.error 0,x)
 |_+1,x,_,[]=>(.ok [],x)
 |f+1,x,sc,d::r=>match form S f x sc d with
  |(.error e,x)=>(.error e,x)
  |(.ok a,x)=>match bG S f x sc r with
   |(.error e,x)=>(.error e,x)
   |(.ok l,x)=>(.ok (a::l),x)
def cK(S:Sub):Nat->Xs->aF->Dt->List Dt->Except Nat Ex×Xs
 |0,x,_,_,_=>(.error 0,x)
 |f+1,x,sc,p,body=>
  let ps:Option (List Id×Bool):=match p with
   | .sym t m=>sT ([(t,m)],xA)
   | .list l=>(dI l).bind (λis=>if distinct is then sT (is,xN)else US)
   |_=>US
  match ps with
  |US=>(.error 4,x)
  |some (is,rest)=>match bG S f x (is::sc) body with
   |(.error e,x)=>(.error e,x)
   |(.ok b,x)=>(.ok (.lam is.length rest b),x)
def bP(S:Sub):Nat->Xs->aF->Kw->List Dt->Except Nat Ex×Xs
 |0,x,_,_,_=>(.error 0,x)
 |f+1,x,sc,k,l=>match k,l with
  | .quote,[d]=>(.ok (.quo d),x)
  | .ite,[a,b]=>match bG S f x sc [a,b]with
   |(.ok [a,b],x)=>(.ok (.ite a b US),x)
   |(.ok _,x)=>(.error 4,x)
   |(.error e,x)=>(.error e,x)
  | .ite,[a,b,c]=>match bG S f x sc [a,b,c]with
   |(.ok [a,b,c],x)=>(.ok (.ite a b (sT c)),x)
   |(.ok _,x)=>(.error 4,x)
   |(.error e,x)=>(.error e,x)
  | .begin,b::r=>match bG S f x sc (b::r)with
   |(.ok (b::r),x)=>(.ok (.seq b r),x)
   |(.ok [],x)=>(.error 4,x)
   |(.error e,x)=>(.error e,x)
  | .set,[v,a]=>match (qW v).bind (λi=>dP x i sc)with
   |US=>(.error 4,x)
   |some t=>match form S f x sc a with
    |(.error e,x)=>(.error e,x)
    |(.ok a,x)=>(match t with| .loc u n=>.ok (.setL u n a)| .glo s=>.ok (.setG s a)|_=>.error 4,x)
  | .cK,p::b::r=>cK S f x sc p (b::r)
  | .let',.list bs::b::r=>match iG bs with
   |US=>(.error 4,x)
   |some (ns,vs)=>match cK S f x sc (.list ns) (b::r)with
    |(.error e,x)=>(.error e,x)
    |(.ok g,x)=>match bG S f x sc vs with
     |(.error e,x)=>(.error e,x)
     |(.ok vs,x)=>(.ok (.app g vs),x)
  |_,_=>(.error 4,x)
end
def dK(S:Sub)(f:Nat)(x:Xs)(l:List Dt):Except Nat Ex×Xs:=match l with
 | [.sym t _,a]=>match Kw.of t with
  |some _=>(.error 4,x)
  |US=>match form S f (x.drop t) [] a with
   |(.error e,x)=>(.error e,x)
   |(.ok a,x)=>(.ok (.defG t a),x)
 | .list (.sym t _::ps)::b::r=>match Kw.of t with
  |some _=>(.error 4,x)
  |US=>match cK S f (x.drop t) [] (.list ps) (b::r)with
   |(.error e,x)=>(.error e,x)
   |(.ok a,x)=>(.ok (.defG t a),x)
 |_=>(.error 4,x)
def lQ:Bs:=[115,121,110,116,97,120,45,114,117,108,101,115]
def fS(x:Xs)(l:List Dt):Except Nat Ex×Xs:=match l with
 | [.sym t _,.list (.sym u _::.list ls::rs)]=>
  if(Kw.of t).isSome||!(u==lQ)then(.error 4,x)
  else match cA ls with
   |US=>(.error 4,x)
   |some lits=>match eU lits rs with
    |US=>(.error 4,x)
    |some rules=>let x:=x.drop t;(.ok .skip,{x with macros:=x.macros++[⟨t,lits,rules⟩]})
 |_=>(.error 4,x)
def top(S:Sub):Nat->Xs->Dt->Except Nat Ex×Xs
 |0,x,_=>(.error 0,x)
 |f+1,x,d=>match d with
  | .list (.sym t m::r)=>match x.means (t,m) []with
   | .kw .dK=>dK S f x r
   | .kw .synx'=>fS x r
   | .mac mc=>match eI S x mc r []with
    |(.error e,x)=>(.error e,x)
    |(.ok (d,x),_)=>top S f x d
   |_=>form S (f+1) x [] d
  |d=>form S (f+1) x [] d
def dG(n most:Int):Bool:=decide (0<=n/\n<=most)
def fV:Nat:=1000000000
def dV(S:Sub):List (Dt×Nat)->Option Vl->Xs->Mc->(Option Nat×Nat)×Option Vl×Xs×Mc
 | [],v,x,m=>((US,0),v,x,m)
 |(d,p)::r,v,x,m=>match top S fV x d with
  |(.error e,x)=>((sT e,p),v,x,m)
  |(.ok e,x)=>match go S fV (.ev e US []) m with
   |(.done v,m)=>dV S r (sT v) x m
   |(.stop e,m)=>((sT e,p),v,x,m)
   |(_,m)=>((sT 0,p),v,x,m)
end Sc
end
section
namespace Sc
open Go
theorem vB(S:Sub)(n:Nat)(v:Vl)(m:Mc):go S n (.done v) m=(.done v,m):=by cases n<;>rfl
theorem vA(S:Sub)(n:Nat)(e:Nat)(m:Mc):go S n (.stop e) m=(.stop e,m):=by cases n<;>rfl
theorem CS(S:Sub)(n:Nat)(c:Ct)(m:Mc):go S (n+1) c m=go S n (next S c m).1 (next S c m).2:=by cases c with|done v=>rw[vB];show _=go S n (.done v) m;rw[vB]|stop e=>rw[vA];show _=go S n (.stop e) m;rw[vA]|_=>rfl
def mostP:List Pm:=[.add,.sub,.mul,.quot,.rem,.eql,.lss,.nullQ,.pairQ,.intQ,.symQ,.strQ,.boolQ,.procQ,.sealQ,.not,.eqQ,.equalQ,.cons,.car,.cdr,.list,.length,.append,.strAppend,.strLength,.numStr,.symStr,.apply,.callcc,.wind,.error,.seal]
def m0:Mc:={({}:Mc)with glob:=([([115,101,99,114,101,116,115],.nil),([111,117,116],.bool xN),([105,110],.bool xN),([99,108,111,99,107],.bool xN),([100,105,99,101],.bool xN),([107,101,121],.bool xN)]:List (Bs×Vl)).foldl (λg p=>put p.1 p.2 g) (mostP.foldl (λg p=>put p.name (.prim p) g) [])}
end Sc
end
section
namespace Sc
open Go
abbrev Mc.st(m:Mc)(k:Nat):Mc:={m with steps:=m.steps+k}
end Sc
end
end
end Go.Proofs.YtmjepkgaobnfmaaGreatDoor
namespace Go.Proofs
open Tryz
open Go.Shelf
def Tryz.lays137_ren:Go.Shelf.Ren:=⟨fun|137=>58|217=>80|266=>144|n=>n,fun|n=>n,fun|n=>n⟩
theorem Tryz.lays137:Go.Proofs.Lays.n137 prog Tryz.lays137_ren:={
 mixed:=by kernel_rfl
 f137:=func58.t (congrArg some (by kernel_rfl))
 f217:=func80.t (congrArg some (by kernel_rfl))
 f266:=func144.t (congrArg some (by kernel_rfl))
 t3:=underlying3
 a3:=Tryz.isAgg3
 z3:=Tryz.sizeOf3
 v3:=Tryz.zeroValue3
 t5:=underlying5
 a5:=Tryz.isAgg5
 z5:=Tryz.sizeOf5
 v5:=Tryz.zeroValue5
 t9:=underlying9
 a9:=Tryz.isAgg9
 z9:=Tryz.sizeOf9
 v9:=Tryz.zeroValue9}
open Go.RowKit in
theorem Tryz.strings_IndexByte(s:ByteArray)(c:Int)(w:World):Calls prog 58 #[.string s,.int .u8 c] w λe w'=>e=.returned (.int .i64 (Lib.indexByte s.data.toList c.toNat.toUInt8))/\w'=w:=Any.strings_IndexByte Tryz.lays137 s c w
def Tryz.laysM173_ren:Go.Shelf.Ren:=⟨fun|129=>204|173=>62|246=>84|283=>151|284=>152|285=>153|286=>154|317=>203|318=>205|319=>206|320=>207|337=>239|338=>240|n=>n,fun|37=>50|46=>205|51=>254|53=>202|171=>210|173=>213|212=>253|213=>255|232=>318|233=>319|n=>n,fun|17=>3|18=>4|19=>5|n=>n⟩
theorem Tryz.laysM173:Go.Proofs.LaysM.n173 prog Tryz.laysM173_ren:={
 mixed:=by kernel_rfl
 f129:=func204.t (congrArg some (by kernel_rfl))
 f173:=func62.t (congrArg some (by kernel_rfl))
 f246:=func84.t (congrArg some (by kernel_rfl))
 f283:=func151.t (congrArg some (by kernel_rfl))
 f284:=func152.t (congrArg some (by kernel_rfl))
 f285:=func153.t (congrArg some (by kernel_rfl))
 f286:=func154.t (congrArg some (by kernel_rfl))
 f317:=func203.t (congrArg some (by kernel_rfl))
 f318:=func205.t (congrArg some (by kernel_rfl))
 f319:=func206.t (congrArg some (by kernel_rfl))
 f320:=func207.t (congrArg some (by kernel_rfl))
 f337:=func239.t (congrArg some (by kernel_rfl))
 f338:=func240.t (congrArg some (by kernel_rfl))
 t0:=underlying0
 a0:=Tryz.isAgg0
 z0:=Tryz.sizeOf0
 v0:=Tryz.zeroValue0
 t2:=underlying2
 a2:=Tryz.isAgg2
 z2:=Tryz.sizeOf2
 v2:=Tryz.zeroValue2
 t3:=underlying3
 a3:=Tryz.isAgg3
 z3:=Tryz.sizeOf3
 v3:=Tryz.zeroValue3
 t4:=underlying4
 a4:=Tryz.isAgg4
 z4:=Tryz.sizeOf4
 v4:=Tryz.zeroValue4
 t5:=underlying5
 a5:=Tryz.isAgg5
 z5:=Tryz.sizeOf5
 v5:=Tryz.zeroValue5
 t9:=underlying9
 a9:=Tryz.isAgg9
 z9:=Tryz.sizeOf9
 v9:=Tryz.zeroValue9
 t20:=underlying20
 a20:=Tryz.isAgg20
 z20:=Tryz.sizeOf20
 v20:=Tryz.zeroValue20
 t37:=underlying50
 a37:=Tryz.isAgg50
 z37:=Tryz.sizeOf50
 v37:=Tryz.zeroValue50
 t46:=underlying205
 a46:=Tryz.isAgg205
 z46:=Tryz.sizeOf205
 v46:=Tryz.zeroValue205
 t51:=underlying254
 a51:=Tryz.isAgg254
 z51:=Tryz.sizeOf254
 v51:=Tryz.zeroValue254
 t53:=underlying202
 a53:=Tryz.isAgg202
 z53:=Tryz.sizeOf202
 v53:=Tryz.zeroValue202
 t171:=underlying210
 a171:=Tryz.isAgg210
 z171:=Tryz.sizeOf210
 v171:=Tryz.zeroValue210
 t173:=underlying213
 a173:=Tryz.isAgg213
 z173:=Tryz.sizeOf213
 v173:=Tryz.zeroValue213
 t212:=underlying253
 a212:=Tryz.isAgg253
 z212:=Tryz.sizeOf253
 v212:=Tryz.zeroValue253
 t213:=underlying255
 a213:=Tryz.isAgg255
 z213:=Tryz.sizeOf255
 t232:=underlying318
 a232:=Tryz.isAgg318
 z232:=Tryz.sizeOf318
 v232:=Tryz.zeroValue318
 t233:=underlying319
 a233:=Tryz.isAgg319
 z233:=Tryz.sizeOf319
 v233:=Tryz.zeroValue319
 g17:=by kernel_rfl
 g18:=by kernel_rfl
 g19:=by kernel_rfl
 i0:=by kernel_rfl
 i2:=by kernel_rfl
 i3:=by kernel_rfl
 i4:=by kernel_rfl
 i5:=by kernel_rfl
 i9:=by kernel_rfl
 i20:=by kernel_rfl
 i37:=by kernel_rfl
 i46:=by kernel_rfl
 i51:=by kernel_rfl
 i53:=by kernel_rfl
 i171:=by kernel_rfl
 i173:=by kernel_rfl
 i212:=by kernel_rfl
 i232:=by kernel_rfl
 i233:=by kernel_rfl
 m17:=by kernel_rfl
 m18:=by kernel_rfl
 m19:=by kernel_rfl}
open Go.RowKit Go.Sort Go.Lib in
theorem Tryz.strconv_FormatInt_10(n:Int)(b:-9223372036854775808<=n)(c:n<=9223372036854775807)(w:World)(a:Lib.TabIs prog w "internal/strconv.uint64pow10" .u64 Lib.pow10Tab):Calls prog 62 #[.int .i64 n,.int .i64 10] w λe w'=>e=.returned (.string ⟨(Lib.itoa n).toArray⟩)/\∃k d,w'=grow (w.drewN k) d:=Any.strconv_FormatInt_10 Tryz.laysM173 n b c w a
def Tryz.laysC174_ren:Go.Shelf.Ren:=⟨fun|129=>204|171=>202|174=>60|205=>201|243=>238|245=>83|246=>84|247=>82|279=>147|280=>148|281=>149|282=>150|283=>151|284=>152|285=>153|286=>154|287=>146|316=>200|317=>203|318=>205|319=>206|320=>207|321=>198|322=>199|337=>239|338=>240|n=>n,fun|37=>50|46=>205|51=>254|53=>202|75=>66|80=>68|85=>128|127=>87|143=>296|145=>298|167=>201|168=>206|171=>210|173=>213|175=>203|210=>249|212=>253|213=>255|232=>318|233=>319|n=>n,fun|15=>1|16=>2|17=>3|18=>4|19=>5|n=>n⟩
theorem Tryz.laysC174:Go.Proofs.LaysC.n174 prog Tryz.laysC174_ren:={
 mixed:=by kernel_rfl
 f129:=func204.t (congrArg some (by kernel_rfl))
 f171:=func202.t (congrArg some (by kernel_rfl))
 f174:=func60.t (congrArg some (by kernel_rfl))
 f205:=func201.t (congrArg some (by kernel_rfl))
 f243:=func238.t (congrArg some (by kernel_rfl))
 f245:=func83.t (congrArg some (by kernel_rfl))
 f246:=func84.t (congrArg some (by kernel_rfl))
 f247:=func82.t (congrArg some (by kernel_rfl))
 f279:=func147.t (congrArg some (by kernel_rfl))
 f280:=func148.t (congrArg some (by kernel_rfl))
 f281:=func149.t (congrArg some (by kernel_rfl))
 f282:=func150.t (congrArg some (by kernel_rfl))
 f283:=func151.t (congrArg some (by kernel_rfl))
 f284:=func152.t (congrArg some (by kernel_rfl))
 f285:=func153.t (congrArg some (by kernel_rfl))
 f286:=func154.t (congrArg some (by kernel_rfl))
 f287:=func146.t (congrArg some (by kernel_rfl))
 f316:=func200.t (congrArg some (by kernel_rfl))
 f317:=func203.t (congrArg some (by kernel_rfl))
 f318:=func205.t (congrArg some (by kernel_rfl))
 f319:=func206.t (congrArg some (by kernel_rfl))
 f320:=func207.t (congrArg some (by kernel_rfl))
 f321:=func198.t (congrArg some (by kernel_rfl))
 f322:=func199.t (congrArg some (by kernel_rfl))
 f337:=func239.t (congrArg some (by kernel_rfl))
 f338:=func240.t (congrArg some (by kernel_rfl))
 t0:=underlying0
 a0:=Tryz.isAgg0
 z0:=Tryz.sizeOf0
 v0:=Tryz.zeroValue0
 t2:=underlying2
 a2:=Tryz.isAgg2
 z2:=Tryz.sizeOf2
 v2:=Tryz.zeroValue2
 t3:=underlying3
 a3:=Tryz.isAgg3
 z3:=Tryz.sizeOf3
 v3:=Tryz.zeroValue3
 t4:=underlying4
 a4:=Tryz.isAgg4
 z4:=Tryz.sizeOf4
 v4:=Tryz.zeroValue4
 t5:=underlying5
 a5:=Tryz.isAgg5
 z5:=Tryz.sizeOf5
 v5:=Tryz.zeroValue5
 t9:=underlying9
 a9:=Tryz.isAgg9
 z9:=Tryz.sizeOf9
 v9:=Tryz.zeroValue9
 t20:=underlying20
 a20:=Tryz.isAgg20
 z20:=Tryz.sizeOf20
 v20:=Tryz.zeroValue20
 t21:=underlying21
 a21:=Tryz.isAgg21
 z21:=Tryz.sizeOf21
 v21:=Tryz.zeroValue21
 t37:=underlying50
 a37:=Tryz.isAgg50
 z37:=Tryz.sizeOf50
 v37:=Tryz.zeroValue50
 t46:=underlying205
 a46:=Tryz.isAgg205
 z46:=Tryz.sizeOf205
 v46:=Tryz.zeroValue205
 t51:=underlying254
 a51:=Tryz.isAgg254
 z51:=Tryz.sizeOf254
 v51:=Tryz.zeroValue254
 t53:=underlying202
 a53:=Tryz.isAgg202
 z53:=Tryz.sizeOf202
 v53:=Tryz.zeroValue202
 t75:=underlying66
 a75:=Tryz.isAgg66
 z75:=Tryz.sizeOf66
 v75:=Tryz.zeroValue66
 t85:=underlying128
 a85:=Tryz.isAgg128
 z85:=Tryz.sizeOf128
 v85:=Tryz.zeroValue128
 t127:=underlying87
 a127:=Tryz.isAgg87
 z127:=Tryz.sizeOf87
 v127:=Tryz.zeroValue87
 t143:=underlying296
 a143:=Tryz.isAgg296
 z143:=Tryz.sizeOf296
 v143:=Tryz.zeroValue296
 t145:=underlying298
 a145:=Tryz.isAgg298
 z145:=Tryz.sizeOf298
 v145:=Tryz.zeroValue298
 t167:=underlying201
 a167:=Tryz.isAgg201
 z167:=Tryz.sizeOf201
 v167:=Tryz.zeroValue201
 t168:=underlying206
 a168:=Tryz.isAgg206
 z168:=Tryz.sizeOf206
 v168:=Tryz.zeroValue206
 t171:=underlying210
 a171:=Tryz.isAgg210
 z171:=Tryz.sizeOf210
 v171:=Tryz.zeroValue210
 t173:=underlying213
 a173:=Tryz.isAgg213
 z173:=Tryz.sizeOf213
 v173:=Tryz.zeroValue213
 t175:=underlying203
 a175:=Tryz.isAgg203
 z175:=Tryz.sizeOf203
 v175:=Tryz.zeroValue203
 t210:=underlying249
 a210:=Tryz.isAgg249
 z210:=Tryz.sizeOf249
 v210:=Tryz.zeroValue249
 t212:=underlying253
 a212:=Tryz.isAgg253
 z212:=Tryz.sizeOf253
 v212:=Tryz.zeroValue253
 t213:=underlying255
 a213:=Tryz.isAgg255
 z213:=Tryz.sizeOf255
 t232:=underlying318
 a232:=Tryz.isAgg318
 z232:=Tryz.sizeOf318
 v232:=Tryz.zeroValue318
 t233:=underlying319
 a233:=Tryz.isAgg319
 z233:=Tryz.sizeOf319
 v233:=Tryz.zeroValue319
 g15:=by kernel_rfl
 g16:=by kernel_rfl
 g17:=by kernel_rfl
 g18:=by kernel_rfl
 g19:=by kernel_rfl
 t80:=underlying68
 a80:=Tryz.isAgg68
 z80:=Tryz.sizeOf68
 v80:=Tryz.zeroValue68
 i0:=by kernel_rfl
 i2:=by kernel_rfl
 i3:=by kernel_rfl
 i4:=by kernel_rfl
 i5:=by kernel_rfl
 i9:=by kernel_rfl
 i20:=by kernel_rfl
 i21:=by kernel_rfl
 i37:=by kernel_rfl
 i46:=by kernel_rfl
 i51:=by kernel_rfl
 i53:=by kernel_rfl
 i75:=by kernel_rfl
 i80:=by kernel_rfl
 i85:=by kernel_rfl
 i127:=by kernel_rfl
 i143:=by kernel_rfl
 i145:=by kernel_rfl
 i167:=by kernel_rfl
 i168:=by kernel_rfl
 i171:=by kernel_rfl
 i173:=by kernel_rfl
 i175:=by kernel_rfl
 i210:=by kernel_rfl
 i212:=by kernel_rfl
 i232:=by kernel_rfl
 i233:=by kernel_rfl
 m15:=by kernel_rfl
 m16:=by kernel_rfl
 m17:=by kernel_rfl
 m18:=by kernel_rfl
 m19:=by kernel_rfl
 c0:=by kernel_rfl
 c2:=by kernel_rfl
 c3:=by kernel_rfl
 c4:=by kernel_rfl
 c5:=by kernel_rfl
 c9:=by kernel_rfl
 c20:=by kernel_rfl
 c21:=by kernel_rfl
 c37:=by kernel_rfl
 c46:=by kernel_rfl
 c51:=by kernel_rfl
 c53:=by kernel_rfl
 c75:=by kernel_rfl
 c80:=by kernel_rfl
 c85:=by kernel_rfl
 c127:=by kernel_rfl
 c143:=by kernel_rfl
 c145:=by kernel_rfl
 c167:=by kernel_rfl
 c168:=by kernel_rfl
 c171:=by kernel_rfl
 c173:=by kernel_rfl
 c175:=by kernel_rfl
 c210:=by kernel_rfl
 c212:=by kernel_rfl
 c213:=by kernel_rfl
 c232:=by kernel_rfl
 c233:=by kernel_rfl}
open Go.RowKit in
theorem Tryz.strconv_ParseInt_10_at64_ok(s:ByteArray)(a:s.size<=9223372036854775806)(v:Int)(h:Lib.parseIntB 64 s.data.toList=.ok v)(w:World):Calls prog 60 #[.string s,.int .i64 10,.int .i64 64] w λe w'=>e=.returned (.tuple #[.int .i64 v,.nilIface])/\(w'=w\/∃t,w'=Lib.bytesWorld w 5 t):=Any.strconv_ParseInt_10_at64_ok Tryz.laysC174 s a v h w
open Go.RowKit in
theorem Tryz.strconv_ParseInt_10_at64_range_var(s:ByteArray)(a:s.size<=281474976710656)(h:Lib.parseIntB 64 s.data.toList=.range)(c:TypeId)(p:Value)(w:World)(b:w.var? prog "strconv.ErrRange" =some #[.iface c p]):Calls prog 60 #[.string s,.int .i64 10,.int .i64 64] w λe w'=>∃N,e=.returned (.tuple #[.int .i64 (Lib.intSat 64 s.data.toList),.iface 206 (.pointer (some ⟨N,0,none⟩))])/\w.heap.size<=N/\w'.heap[N]? =some (.cells #[.string ⟨#[80,97,114,115,101,73,110,116]⟩,.string s,.iface c p] 249 (0,0))/\Below w.heap.size w w':=Any.strconv_ParseInt_10_at64_range_var Tryz.laysC174 s a h c p w b
def Tryz.lays101_ren:Go.Shelf.Ren:=⟨fun|101=>81|206=>197|208=>145|n=>n,fun|n=>n,fun|n=>n⟩
theorem Tryz.lays101:Go.Proofs.Lays.n101 prog Tryz.lays101_ren:={
 mixed:=by kernel_rfl
 f101:=func81.t (congrArg some (by kernel_rfl))
 f206:=func197.t (congrArg some (by kernel_rfl))
 f208:=func145.t (congrArg some (by kernel_rfl))
 t3:=underlying3
 a3:=Tryz.isAgg3
 z3:=Tryz.sizeOf3
 v3:=Tryz.zeroValue3
 t4:=underlying4
 a4:=Tryz.isAgg4
 z4:=Tryz.sizeOf4
 v4:=Tryz.zeroValue4
 t9:=underlying9
 a9:=Tryz.isAgg9
 z9:=Tryz.sizeOf9
 v9:=Tryz.zeroValue9}
open Go.RowKit Go.Lib in
theorem Tryz.strings_TrimPrefix(s p:ByteArray)(w:World):Calls prog 81 #[.string s,.string p] w λe w'=>e=.returned (.string ⟨(Lib.trimPrefix s.data.toList p.data.toList).toArray⟩)/\w'=w:=Any.strings_TrimPrefix Tryz.lays101 s p w
def Tryz.bren:Go.Shelf.Ren:=⟨fun|167=>16|240=>25|276=>42|n=>n,fun|37=>50|70=>49|72=>52|75=>66|80=>68|164=>110|n=>n,fun|n=>n⟩
theorem Tryz.blays240:Lays.n240 prog Tryz.bren:={
 mixed:=by kernel_rfl
 f240:=func25.t (congrArg some (by kernel_rfl))
 f276:=func42.t (congrArg some (by kernel_rfl))
 t0:=underlying0
 a0:=Tryz.isAgg0
 z0:=Tryz.sizeOf0
 v0:=Tryz.zeroValue0
 t4:=underlying4
 a4:=Tryz.isAgg4
 z4:=Tryz.sizeOf4
 v4:=Tryz.zeroValue4
 t9:=underlying9
 a9:=Tryz.isAgg9
 z9:=Tryz.sizeOf9
 v9:=Tryz.zeroValue9
 t20:=underlying20
 a20:=Tryz.isAgg20
 z20:=Tryz.sizeOf20
 v20:=Tryz.zeroValue20
 t70:=underlying49
 a70:=Tryz.isAgg49
 z70:=Tryz.sizeOf49
 v70:=Tryz.zeroValue49
 t72:=underlying52
 a72:=Tryz.isAgg52
 z72:=Tryz.sizeOf52
 v72:=Tryz.zeroValue52
 t164:=underlying110
 a164:=Tryz.isAgg110
 z164:=Tryz.sizeOf110
 v164:=Tryz.zeroValue110
}
theorem Tryz.blays167:Lays.n167 prog Tryz.bren:={
 mixed:=by kernel_rfl
 f167:=func16.t (congrArg some (by kernel_rfl))
 f240:=func25.t (congrArg some (by kernel_rfl))
 f276:=func42.t (congrArg some (by kernel_rfl))
 t0:=underlying0
 a0:=Tryz.isAgg0
 z0:=Tryz.sizeOf0
 v0:=Tryz.zeroValue0
 t4:=underlying4
 a4:=Tryz.isAgg4
 z4:=Tryz.sizeOf4
 v4:=Tryz.zeroValue4
 t5:=underlying5
 a5:=Tryz.isAgg5
 z5:=Tryz.sizeOf5
 v5:=Tryz.zeroValue5
 t9:=underlying9
 a9:=Tryz.isAgg9
 z9:=Tryz.sizeOf9
 v9:=Tryz.zeroValue9
 t20:=underlying20
 a20:=Tryz.isAgg20
 z20:=Tryz.sizeOf20
 v20:=Tryz.zeroValue20
 t37:=underlying50
 a37:=Tryz.isAgg50
 z37:=Tryz.sizeOf50
 v37:=Tryz.zeroValue50
 t70:=underlying49
 a70:=Tryz.isAgg49
 z70:=Tryz.sizeOf49
 v70:=Tryz.zeroValue49
 t72:=underlying52
 a72:=Tryz.isAgg52
 z72:=Tryz.sizeOf52
 v72:=Tryz.zeroValue52
 t75:=underlying66
 a75:=Tryz.isAgg66
 z75:=Tryz.sizeOf66
 v75:=Tryz.zeroValue66
 t164:=underlying110
 a164:=Tryz.isAgg110
 z164:=Tryz.sizeOf110
 v164:=Tryz.zeroValue110
}
theorem Tryz.bextra:Builder.Extra prog Tryz.bren:={
 sizeBuilder:=by kernel_rfl
 liesBuilder:=by kernel_rfl
 t5:=underlying5
 a5:=Tryz.isAgg5
 z5:=Tryz.sizeOf5
 v5:=Tryz.zeroValue5
 infoByte:=by kernel_rfl
 cellsByte:=by kernel_rfl
 sizeByte:=by kernel_rfl
 neB5:=by decide
}
open Go.RowKit in
theorem Tryz.Builder_WriteByte_k(B b:Nat)(bs:List Value)(c:Int)(w:World)(h:Lib.IsBuilderF 52 5 B b bs w)(a:bs.length+1<=140737488355328)(d:B<=w.heap.size):Calls prog 16 #[.pointer (some ⟨b,0,none⟩),.int .u8 c] w λe w'=>e=.returned .nilIface/\(Lib.BuilderAtF 52 5 B b (.pointer (some ⟨b,0,none⟩)) (bs++[.int .u8 c]) w'/\Below B w w'/\Lib.OthersKept 5 (some b) w w'):=Any.Builder_WriteByte_k Tryz.blays167 Tryz.bextra B b bs c w h a d
def Tryz.lays169_ren:Go.Shelf.Ren:=⟨fun|169=>17|n=>n,fun|37=>50|70=>49|72=>52|127=>87|n=>n,fun|n=>n⟩
theorem Tryz.lays169:Go.Proofs.Lays.n169 prog Tryz.lays169_ren:={
 mixed:=by kernel_rfl
 f169:=func17.t (congrArg some (by kernel_rfl))
 t0:=underlying0
 a0:=Tryz.isAgg0
 z0:=Tryz.sizeOf0
 v0:=Tryz.zeroValue0
 t3:=underlying3
 a3:=Tryz.isAgg3
 z3:=Tryz.sizeOf3
 v3:=Tryz.zeroValue3
 t9:=underlying9
 a9:=Tryz.isAgg9
 z9:=Tryz.sizeOf9
 v9:=Tryz.zeroValue9
 t37:=underlying50
 a37:=Tryz.isAgg50
 z37:=Tryz.sizeOf50
 v37:=Tryz.zeroValue50
 t70:=underlying49
 a70:=Tryz.isAgg49
 z70:=Tryz.sizeOf49
 v70:=Tryz.zeroValue49
 t72:=underlying52
 a72:=Tryz.isAgg52
 z72:=Tryz.sizeOf52
 v72:=Tryz.zeroValue52
 t127:=underlying87
 a127:=Tryz.isAgg87
 z127:=Tryz.sizeOf87
 v127:=Tryz.zeroValue87}
theorem Tryz.Builder_Extra_169:Builder.Extra prog Tryz.lays169_ren:={
 sizeBuilder:=by kernel_rfl
 liesBuilder:=by kernel_rfl
 t5:=underlying5
 a5:=Tryz.isAgg5
 z5:=Tryz.sizeOf5
 v5:=Tryz.zeroValue5
 infoByte:=by kernel_rfl
 cellsByte:=by kernel_rfl
 sizeByte:=by kernel_rfl
 neB5:=by decide}
open Go.RowKit in
theorem Tryz.Builder_String_any_k(B b:Nat)(l:List UInt8)(w:World)(h:Lib.IsBuilderF 52 5 B b (Lib.byteCells l) w)(a:B<=w.heap.size):Calls prog 17 #[.pointer (some ⟨b,0,none⟩)] w λe w'=>e=.returned (.string ⟨l.toArray⟩)/\(Lib.IsBuilderF 52 5 B b (Lib.byteCells l) w'/\Below B w w'/\Lib.OthersKept 5 (some b) w w'):=Any.Builder_String_any_k Tryz.lays169 Tryz.Builder_Extra_169 B b l w h a
end Go.Proofs
namespace Go.Proofs.YtmjepkgaobnfmaaGreatDoor
open Tryz hiding parts
open Go.Value renaming slice→Sl,string→Sg,iface→If,tuple→Tu,agg→Ag
open Go.Obj renaming cells→Cl
open Go.Ending renaming returned→Rt,panicked→Pk
open _root_.Option renaming some→sT,none→sV
open _root_.Bool renaming true→xA,false→xN
section
open Sc
open _root_.Array renaming getElem?_modify→UX
open _root_.Bool renaming eq_iff_iff→UY
open _root_.Classical renaming not_forall→VD
open Go.IntKind renaming i64→UZ
open _root_.List renaming dropWhile→UR,flatMap→VJ,map_append→VK,takeWhile→VE
open _root_.Nat renaming le_succ→VL,lt_or_ge→VH,lt_succ_self→VC
open Go.World renaming cell?_of_block→VA,cell?→UT,frozen?_of_block→VB,frozen?→UU,grownBy_alloc→UW,news_of_block→VI,ownsRow_nil→VG,setCell→UV
variable {B b g k lo m n o p q r:Nat}{P:UInt8->Bool}{U s u:BA}{W a0 w w' w2:Wd}{b0 o2:Obj}{e:En}{g0 l:List UInt8}{ts:List Dt}{v0 v1 v2 v3 v4 v5:Vu}{xs:List Vu}
section
namespace Rd
open Go.RowKit
def Rd(b:Nat)(s:BA)(p d:Nat)(w:Wd):Prop:=
 w.heap[b]? =sT (Cl #[Sg s,Ii (p:Int),Ii (d:Int)] 75)
theorem Rd.c0{d:Nat}(h:Rd b s p d w):w.cell? (Aa b)=sT (Sg s):=by unfold Rd at h;simp[UT,h]
theorem Rd.c1{d:Nat}(h:Rd b s p d w):w.cell? (Ab b 1)=sT (Ii (p:Int)):=by unfold Rd at h;simp[UT,h]
theorem Rd.c2{d:Nat}(h:Rd b s p d w):w.cell? (Ab b 2)=sT (Ii (d:Int)):=by unfold Rd at h;simp[UT,h]
theorem Rd.fz{d:Nat}(h:Rd b s p d w)(o:Nat):w.frozen? (Ab b o)=xN:=by unfold Rd at h;simp[UU,h]
theorem Rd.drewN{d:Nat}(h:Rd b s p d w)(n:Nat):Rd b s p d (w.drewN n):=by unfold Rd at*;simpa using h
theorem cL{d:Nat}(h:Rd b s p d w):Cp 20 #[Pz b] w λe w'=>e=Rt (.bool (((p:Int)==(s.size:Int))))/\∃n,w'=w.drewN n:=by have a:=h.c0;have c:=h.c1;clear h;delta Cp;go_in;go_wp2;go_quiet (fail);go_wp2;go_ret;exact⟨rfl,_,rfl⟩
theorem qc8{c:Prop}(h:c:=by
  go_enter func50,ntmps50
  go_wp2;go_quiet ((go_at_call 20;exact Calls.quiet_of (cL (HR.o.drewN _))))
  go_wp2;go_ret;exact⟨rfl,_,rfl⟩):c:=h
theorem yF{c:Int}(s:BA)(p d:Nat)(h:Rd b s p d w)(a:p=s.size):Cp 50 #[Pz b,.int .u8 c] w λe w'=>e=Rt (.bool xN)/\∃n,w'=w.drewN n:=by
 have f:=h.c0;have g:=h.c1;have HR:Hid (Rd b s p d w):=h;have i:((p:Int)==(s.size:Int))=xA:=by simp[a]
 clear h a;exact qc8
theorem jR(d:Nat)(c:Int)(w:Wd)(h:Rd b s p d w)(a:p<s.size):Cp 50 #[Pz b,.int .u8 c] w λe w'=>e=Rt (.bool ((s[p].toNat:Int)==c))/\∃n,w'=w.drewN n:=by have f:=h.c0;have g:=h.c1;have HR:Hid (Rd b s p d w):=h;have i:((p:Int)==(s.size:Int))=xN:=So;clear h;exact qc8
def L(s:BA)(p:Nat):List UInt8:=s.data.toList.drop p
theorem dD(s:BA)(p:Nat)(h:p<s.size):L s p=s[p]::L s (p+1):=by unfold L;rw[List.drop_eq_getElem_cons (by simpa using h)];rfl
theorem kP(s:BA)(p:Nat)(h:s.size<=p):L s p=[]:=by unfold L;exact List.drop_eq_nil_of_le (by simpa using h)
theorem eS(s:BA)(p:Nat):(L s p).length=s.size-p:=by unfold L;rw[List.length_drop];rfl
abbrev Only(b:Nat)(w w':Wd):Prop:=w.grownBy w' (sT b)
theorem Only.drewN(h:Only b w w')(n:Nat):Only b w (w'.drewN n):=⟨h.os,h.tape,h.output,h.size,h.block⟩
theorem Only.refl(b:Nat)(w:Wd):Only b w w:=⟨rfl,rfl,rfl,eR _,λ_ _ _=>rfl⟩
theorem Only.t(h:Only b w a0)(k:Only b a0 w2):Only b w w2:=⟨k.os.t h.os,k.tape.t h.tape,k.output.t h.output,eT h.size k.size,λi a c=>(k.block i (eW a h.size) c).t (h.block i a c)⟩
theorem Only.set(h:Only b w w')(o:Nat)(v:Vu):Only b w (w'.setCell (Ab b o) v):=h.t ⟨rfl,rfl,rfl,by simp[UV],λk _ a=>Below.heap_setCell _ _ _ _ (λe=>a (by rw[e]))⟩
theorem Only.alloc(h:Only b w w')(o:Obj):Only b w (w'.alloc o):=h.t (UW _ _ _)
theorem Rd.set1{d:Nat}(h:Rd b s p d w)(q:Nat)(z:Int)(a:z=(q:Int)):Rd b s q d (w.setCell (Ab b 1) (Ii z)):=by subst a;unfold Rd at*;simp[UV,UX,h]
theorem Rd.set2{d:Nat}(h:Rd b s p d w)(q:Nat)(z:Int)(a:z=(q:Int)):Rd b s p q (w.setCell (Ab b 2) (Ii z)):=by subst a;unfold Rd at*;simp[UV,UX,h]
theorem Rd.lt{d:Nat}(h:Rd b s p d w):b<w.heap.size:=(eE.1 h).1
theorem Rd.alloc{d:Nat}(h:Rd b s p d w)(o:Obj):Rd b s p d (w.alloc o):=by have:=h.lt;unfold Rd at*;rw[eH w o b this];exact h
def eD(b:Nat)(w:Wd):Nat:=match w.cell? (Ab b 1)with|some (.int _ q)=>q.toNat|_=>0
theorem Rd.pos{d:Nat}(h:Rd b s p d w):eD b w=p:=by unfold eD;rw[h.c1];simp
end Rd
end
section
namespace Rd
open Go.RowKit
theorem Mq(h:q<s.size)(a:((s[q].toNat:Int)==10)=xN):Px.skip xA (L s q)=Px.skip xA (L s (q+1)):=by rw[dD s q h,Px.skip,if_neg (by have:=beq_eq_false_iff_ne.1 a;omega)]
theorem Ms(s:BA)(q:Nat)(h:s.size<=q):Px.skip xA (L s q)=Px.skip xN (L s q):=by rw[kP s q h];rfl
theorem Mr(h:q<s.size)(a:((s[q].toNat:Int)==10)=xA):Px.skip xA (L s q)=Px.skip xN (L s q):=by
 have:s[q].toNat=10:=by have:=beq_iff_eq.1 a;omega
 rw[dD s q h,Px.skip,Px.skip,if_pos this,if_pos (.inr this)]
theorem Mp{d:Nat}(h:Rd b s p d w)(x:p<=s.size)(z:s.size<=1200):Cp 30 #[Pz b] w λe w'=>e=Rt (Tu #[])/\∃q,p<=q/\q<=s.size/\Px.skip xA (L s p)=Px.skip xN (L s q)/\(∀h:q<s.size,(s[q].toNat:Int)=10)/\Rd b s q d w'/\Only b w w':=by
 delta Cp;go_in;go_wp2;go_loopw [] (λwr=>∃q,p<=q/\q<=s.size/\Px.skip xA (L s p)=Px.skip xA (L s q)/\Rd b s q d wr/\Only b w wr) (λwr=>s.size-eD b wr);case atStart=>exact⟨p,eR _,x,rfl,h,Only.refl _ _⟩
 case round=>obtain⟨q,j,t,k,i,u⟩:=hrel;have n:Hid (Px.skip xA (L s p)=Px.skip xA (L s q)):=k;clear k;have A:=i.c0;have B:=i.c1;have C:=i.fz 1;have f:Hid (Rd b s q d wr):=i;have o:Hid (Only b w wr):=u;have g:eD b wr=q:=i.pos;have l:Hid (eD b wr=q):=g;clear i u g h;by_cases a:q<s.size;(·have y:((q:Int)==(s.size:Int))=xN:=So;cases hc:((s[q].toNat:Int)==10);(·have m:=Mq a hc;have c:Hid (Px.skip xA (L s q)=Px.skip xA (L s (q+1))):=m;clear m;go_wp2_with (first|(go_at_call 20;refine iC (cL f.o) λr=>?_)|(go_at_call 50;refine iC (jR d _ _ (f.o.drewN _) a) λv=>?_));go_roundw;(case rel=>exact⟨q+1,by omega,by omega,n.o.t c.o,(f.o.drewN _).set1 _ _ Om,(o.o.drewN _).set _ _⟩);case measure=>have e1:=l.o;have e2:=((f.o.drewN (r+v)).set1 (q+1) ((q:Int)+1) Om).pos;rw[e1,e2];omega);have c:Hid (Px.skip xA (L s q)=Px.skip xN (L s q)):=Mr a hc;go_wp2_with (first|(go_at_call 20;refine iC (cL f.o) λr=>?_)|(go_at_call 50;refine iC (jR d _ _ (f.o.drewN _) a) λv=>?_));go_end0;exact⟨rfl,q,j,t,n.o.t c.o,λ_=>beq_iff_eq.1 hc,f.o.drewN _,o.o.drewN _⟩);have y:((q:Int)==(s.size:Int))=xA:=So;have c:Hid (Px.skip xA (L s q)=Px.skip xN (L s q)):=Ms s q Om;go_wp2_with (go_at_call 20;refine iC (cL f.o) λr=>?_);go_end0;exact⟨rfl,q,j,t,n.o.t c.o,λh=>absurd h a,(f.o.drewN _),(o.o.drewN _)⟩
theorem yM(s:BA)(q:Nat)(h:q<s.size)(a:(s[q].toNat:Int)=32\/(s[q].toNat:Int)=10):Px.skip xN (L s q)=Px.skip xN (L s (q+1)):=by rw[dD s q h,Px.skip,if_pos Om]
theorem Mo(h:q<s.size)(a:(s[q].toNat:Int)=59):Px.skip xN (L s q)=Px.skip xA (L s q):=by have e:s[q].toNat=59:=Om;rw[dD s q h,Px.skip,Px.skip,if_neg Om,if_pos e,if_neg Om]
theorem Mj(h:q<s.size)(a:(s[q].toNat:Int)≠32)(b:(s[q].toNat:Int)≠10)(c:(s[q].toNat:Int)≠59):Px.skip xN (L s q)=L s q:=by rw[dD s q h,Px.skip,if_neg Om,if_neg Om]
theorem Mm(s:BA)(q:Nat)(h:s.size<=q):Px.skip xN (L s q)=L s q:=by rw[kP s q h];rfl
theorem TM{c:Prop}(h:c:=by
  have e1:=HPos.o;have e2:=((HR.o.drewN (n1+nq)).set1 (q+1) ((q:Int)+1) Om).pos;rw[e1,e2];omega):c:=h
theorem lR{d:Nat}(h:Rd b s p d w)(B:p<=s.size)(C:s.size<=1200):Cp 19 #[Pz b] w λe w'=>e=Rt (Tu #[])/\∃q,p<=q/\q<=s.size/\Px.skip xN (L s p)=L s q/\Rd b s q d w'/\Only b w w':=by
 delta Cp;go_in;go_wp2;go_loopw [] (λwr=>∃q,p<=q/\q<=s.size/\Px.skip xN (L s p)=Px.skip xN (L s q)/\Rd b s q d wr/\Only b w wr) (λwr=>s.size-eD b wr);case atStart=>exact⟨p,eR _,B,rfl,h,Only.refl _ _⟩
 case round=>obtain⟨q,l,u,m,k,A⟩:=hrel;have n:Hid (Px.skip xN (L s p)=Px.skip xN (L s q)):=m;clear m;have F:=k.c0;have G:=k.c1;have H:=k.fz 1;have HR:Hid (Rd b s q d wr):=k;have o:Hid (Only b w wr):=A;have f:eD b wr=q:=k.pos;have HPos:Hid (eD b wr=q):=f;clear k A f h;by_cases c:q<s.size;(·have D:((q:Int)==(s.size:Int))=xN:=So;cases c32:((s[q].toNat:Int)==32);(·cases lJ:((s[q].toNat:Int)==10);(·cases c59:((s[q].toNat:Int)==59);(·have a:Hid (Px.skip xN (L s q)=L s q):=Mj c (beq_eq_false_iff_ne.1 c32) (beq_eq_false_iff_ne.1 lJ) (beq_eq_false_iff_ne.1 c59);go_wp2_with (go_at_call 20;refine iC (cL HR.o) λn1=>?_);go_quiet (fail);go_wp2_with (go_at_call 20;refine iC (cL HR.o) λn1=>?_);refine bodyPost_ret (results_none rfl _ _ _) rfl ?_;exact⟨rfl,q,l,u,n.o.t a.o,HR.o.drewN _,o.o.drewN _⟩);have a:Hid (Px.skip xN (L s q)=Px.skip xA (L s q)):=Mo c (beq_iff_eq.1 c59);go_wp2_with (go_at_call 20;refine iC (cL HR.o) λn1=>?_);go_quiet (fail);go_wp2_with (go_at_call 30;refine(Mp (HR.o.drewN _) u C).mo ?_;rintro e w' ⟨rfl,q',E,v,g,r,i,t⟩;refine hO ?_);(have hne:q<q':=by rcases VH q q' with h'|h';exact h';exfalso;have e:q'=q:=Om;subst e;have e1:=r c;rw[e1]at c59;exact absurd c59 De);have x:Hid (Px.skip xA (L s q)=Px.skip xN (L s q')):=g;have j:Hid (eD b w'=q'):=i.pos;have y:Hid (Rd b s q' d w'):=i;have z:Hid (Only b w w'):=(o.o.drewN _).t t;clear g i t r;refine hZ ?_;go_wp2;go_roundw;(case rel=>exact⟨q',by omega,v,n.o.t (a.o.t x.o),y.o,z.o⟩);case measure=>have e1:=HPos.o;have e2:=j.o;rw[e1,e2];omega);have a:Hid (Px.skip xN (L s q)=Px.skip xN (L s (q+1))):=yM s q c (.inr (beq_iff_eq.1 lJ));go_wp2_with (go_at_call 20;refine iC (cL HR.o) λn1=>?_);go_quiet (fail);go_wp2;go_roundw;(case rel=>exact⟨q+1,by omega,by omega,n.o.t a.o,(HR.o.drewN _).set1 _ _ Om,(o.o.drewN _).set _ _⟩);case measure=>exact TM);have a:Hid (Px.skip xN (L s q)=Px.skip xN (L s (q+1))):=yM s q c (.inl (beq_iff_eq.1 c32));go_wp2_with (go_at_call 20;refine iC (cL HR.o) λn1=>?_);go_quiet (fail);go_wp2;go_roundw;(case rel=>exact⟨q+1,by omega,by omega,n.o.t a.o,(HR.o.drewN _).set1 _ _ Om,(o.o.drewN _).set _ _⟩);case measure=>exact TM);have D:((q:Int)==(s.size:Int))=xA:=So;have a:Hid (Px.skip xN (L s q)=L s q):=Mm s q Om;go_wp2_with (go_at_call 20;refine iC (cL HR.o) λn1=>?_);go_end0;exact⟨rfl,q,l,u,n.o.t a.o,HR.o.drewN _,o.o.drewN _⟩
end Rd
end
section
namespace Rd
open Go.RowKit
theorem _root_.Go.RowKit.Below.drewN'{a:Wd}(h:Below B a w)(n:Nat):Below B a (w.drewN n):=⟨h.os,h.tape,h.output,h.size,h.block⟩
theorem nV{a:Wd}{v:Vu}(h:Below B a w)(b:B<=g):Below B a (w.setCell (Ab g o) v):=h.setCell (p:=Ab g o) b v
theorem B6{a:Wd}(h:Below B a w)(b:B<=g):Below B a ((((((w.setCell (Aa g) v0).setCell (Ab g 1) v1).setCell (Ab g 2) v2).setCell (Ab g 3) v3).setCell (Ab g 4) v4).setCell (Ab g 5) v5):=nV (nV (nV (nV (nV (nV h b) b) b) b) b) b
theorem Cv(a:k≠g)(v0 v1 v2 v3 v4 v5:Vu):((((((w.setCell (Aa g) v0).setCell (Ab g 1) v1).setCell (Ab g 2) v2).setCell (Ab g 3) v3).setCell (Ab g 4) v4).setCell (Ab g 5) v5).heap[k]? =w.heap[k]?:=by rw[Below.heap_setCell _ _ _ _ a,Below.heap_setCell _ _ _ _ a,Below.heap_setCell _ _ _ _ a,Below.heap_setCell _ _ _ _ a,Below.heap_setCell _ _ _ _ a,Below.heap_setCell _ _ _ _ a]
structure Box (g:Nat) (w:Wd):Prop where
 c0:∃v,w.cell? (Aa g)=sT v
 c1:∃v,w.cell? (Ab g 1)=sT v
 c2:∃v,w.cell? (Ab g 2)=sT v
 c3:∃v,w.cell? (Ab g 3)=sT v
 c4:∃v,w.cell? (Ab g 4)=sT v
 c5:∃v,w.cell? (Ab g 5)=sT v
 fz:∀o,w.frozen? (Ab g o)=xN
theorem Box.of(h:w.heap[g]? =sT (Cl #[v0,v1,v2,v3,v4,v5] 56)):Box g w:=⟨⟨v0,by simp[UT,h]⟩,⟨v1,by simp[UT,h]⟩,⟨v2,by simp[UT,h]⟩,⟨v3,by simp[UT,h]⟩,⟨v4,by simp[UT,h]⟩,⟨v5,by simp[UT,h]⟩,λo=>by simp[UU,h]⟩
theorem wK:Bt w (((w.alloc b0).alloc o2).drewN n):=(((Below.refl _ _).alloc (eR _) _).alloc Sm _).drewN' _
structure El where
 k:Int
 n:Int
 tr:Bool
 tx:BA
 m:Int
 a:OA
 len:Nat
 cap:Nat
abbrev El.v(e:El):Vu:=Ag #[Ii e.k,Ii e.n,.bool e.tr,Sg e.tx,Ii e.m,Sl e.a e.len e.cap]
abbrev El.nil:El:=⟨0,0,xN,⟨#[]⟩,0,sV,0,0⟩
theorem Uf:Cp 52 #[Sg U] w λe w'=>e=Rt (El.v ⟨3,0,xN,U,0,sV,0,0⟩)/\Bt w w':=by delta Cp;go_in;go_wp2;exact bodyPost_ret (v:=El.v ⟨3,0,xN,U,0,sV,0,0⟩) (by simp[results,results52,go_sem]) rfl ⟨rfl,(Below.refl _ _).alloc (eR _) _⟩
theorem UF:Cp 54 #[Sg U] w λe w'=>e=Rt (El.v ⟨2,0,xN,U,0,sV,0,0⟩)/\Bt w w':=by delta Cp;go_in;go_wp2;exact bodyPost_ret (v:=El.v ⟨2,0,xN,U,0,sV,0,0⟩) (by simp[results,results54,go_sem]) rfl ⟨rfl,(Below.refl _ _).alloc (eR _) _⟩
theorem Af{b:Bool}:Cp 56 #[.bool b] w λe w'=>e=Rt (El.v ⟨1,0,b,⟨#[]⟩,0,sV,0,0⟩)/\Bt w w':=by delta Cp;go_in;go_wp2;exact bodyPost_ret (v:=El.v ⟨1,0,b,⟨#[]⟩,0,sV,0,0⟩) (by simp[results,results56,go_sem]) rfl ⟨rfl,(Below.refl _ _).alloc (eR _) _⟩
theorem Ug{n:Int}:Cp 61 #[Ii n] w λe w'=>e=Rt (El.v ⟨0,n,xN,⟨#[]⟩,0,sV,0,0⟩)/\Bt w w':=by delta Cp;go_in;go_wp2;exact bodyPost_ret (v:=El.v ⟨0,n,xN,⟨#[]⟩,0,sV,0,0⟩) (by simp[results,results61,go_sem]) rfl ⟨rfl,(Below.refl _ _).alloc (eR _) _⟩
theorem new2:((w.alloc b0).alloc o2).heap[w.heap.size+1]? =sT o2:=by have:=eN (w.alloc b0) o2;rwa [show(w.alloc b0).heap.size=w.heap.size+1 from by simp]at this
theorem gU{c p:Int}:Cp 31 #[Ii c,Ii p] w λe w'=>∃N,e=Rt (Tu #[El.nil.v,Pz N])/\w.heap.size<=N/\w'.heap[N]? =sT (Cl #[Ii c,Ii p] 48)/\Bt w w':=by delta Cp;go_in;go_wp2;exact bodyPost_ret (v:=Tu #[El.nil.v,Pz (w.heap.size+1)]) (by simp[results,results31,go_sem]) rfl ⟨_,rfl,by omega,new2,((Below.refl _ _).alloc (eR _) _).alloc Sm _⟩
theorem JO(c:UInt8):Px.digB c=(decide (48<=(c.toNat:Int))&&decide ((c.toNat:Int)<=57)):=by unfold Px.digB;rw[UY];simp;omega
theorem uQ{c:UInt8}:Cp 57 #[.int .u8 (c.toNat:Int)] w λe w'=>e=Rt (.bool (Px.digB c))/\w'=w:=by
 rw[JO];delta Cp;go_in;go_wp2;all_goals go_ret
 all_goals exact⟨by simp[*]<;>omega,rfl⟩
theorem Ln(c:UInt8):Px.strB c=(decide (32<=(c.toNat:Int))&&decide ((c.toNat:Int)<=126)&&!((c.toNat:Int)==34)&&!((c.toNat:Int)==92)):=by unfold Px.strB;rw[UY];simp;omega
theorem qP{c:UInt8}:Cp 53 #[.int .u8 (c.toNat:Int)] w λe w'=>e=Rt (.bool (Px.strB c))/\w'=w:=by
 rw[Ln];delta Cp;go_in;go_wp2;all_goals go_ret
 all_goals refine⟨?_,rfl⟩
 all_goals simp[*]
 all_goals first|omega|rfl
theorem EY:∀n:Fin 256,decide (0<=Lib.indexByte [32,10,40,41,39,34,59] (UInt8.ofNat n.val))=Px.endB (UInt8.ofNat n.val):=by decide+kernel
theorem EX(c:UInt8):decide (0<=Lib.indexByte [32,10,40,41,39,34,59] c)=Px.endB c:=by have:=EY ⟨c.toNat,c.toNat_lt⟩;simpa using this
theorem tZ{c:UInt8}:Cp 79 #[.int .u8 (c.toNat:Int)] w λe w'=>e=Rt (.bool (Px.endB c))/\w'=w:=by rw[<-EX];delta Cp;go_in;go_wp2_with (go_at_call 58;refine(Tryz.strings_IndexByte _ _ _).mo ?_;rintro e w' ⟨rfl,rfl⟩);go_ret;exact⟨by simp,rfl⟩
theorem Ht:∀n:Fin 256,Px.wordB (UInt8.ofNat n.val)=(decide (97<=n.val/\n.val<=122)||Px.digB (UInt8.ofNat n.val)||decide (0<=Lib.indexByte [43,45,42,47,60,62,61,63,33,95,46,58] (UInt8.ofNat n.val))):=by decide+kernel
theorem Hs(c:UInt8):Px.wordB c=(decide (97<=c.toNat/\c.toNat<=122)||Px.digB c||decide (0<=Lib.indexByte [43,45,42,47,60,62,61,63,33,95,46,58] c)):=by have:=Ht ⟨c.toNat,c.toNat_lt⟩;simpa using this
theorem oT{c:UInt8}:Cp 37 #[.int .u8 (c.toNat:Int)] w λe w'=>e=Rt (.bool (Px.wordB c))/\w'=w:=by have a:Hid (Px.wordB c=(decide (97<=c.toNat/\c.toNat<=122)||Px.digB c||decide (0<=Lib.indexByte [43,45,42,47,60,62,61,63,33,95,46,58] c))):=Hs c;cases hd:Px.digB c;all_goals delta Cp;go_in;go_wp2_with (first|(go_at_call 57;refine(uQ).mo ?_;rintro e w' ⟨rfl,rfl⟩)|(go_at_call 58;refine(Tryz.strings_IndexByte _ _ _).mo ?_;rintro e w' ⟨rfl,rfl⟩));(all_goals go_ret);(all_goals refine⟨?_,rfl⟩);(all_goals rw[a.o]);(all_goals simp[*]);all_goals first|omega|(rw[UY];simp;omega)
theorem qcv{c:Prop}(h:c:=by
  clear hp;go_enter func55,ntmps55
  go_wp2;go_quiet ((first|(go_at_call 20;exact Calls.quiet_of (cL (((HR.o.alloc _).alloc _).drewN _)))|(go_at_call 79;exact Calls.quiet_of_same tZ)))
  go_wp2;refine bodyPost_ret (v:=Tu #[El.v ⟨k,n,tr,tx,m,a,len,cap⟩,.pointer sV]) (by simp[results,results55,go_sem]) rfl ⟨rfl,B6 wK Om⟩):c:=h
theorem wA{d:Nat}(x:El)(h:Rd b s p d w)(hp:∀c:p<s.size,Px.endB s[p]=xA)(f:p<=s.size):Cp 55 #[Pz b,x.v] w λe w'=>e=Rt (Tu #[x.v,.pointer sV])/\Bt w w':=by obtain⟨k,n,tr,tx,m,a,len,cap⟩:=x;have i:=h.c0;have j:=h.c1;have HR:Hid (Rd b s p d w):=h;have l:=h.lt;clear h;by_cases c:p<s.size;have g:((p:Int)==(s.size:Int))=xN:=So;have o:=hp c;exact qcv;have g:((p:Int)==(s.size:Int))=xA:=So;exact qcv
theorem wB{d:Nat}(x:El)(h:Rd b s p d w)(o:p<s.size)(y:Px.endB s[p]=xN):Cp 55 #[Pz b,x.v] w λe w'=>∃N,e=Rt (Tu #[El.nil.v,Pz N])/\w.heap.size<=N/\w'.heap[N]? =sT (Cl #[Ii 2,Ii p] 48)/\Bt w w':=by
 obtain⟨k,n,z,A,m,a,len,cap⟩:=x;have B:=h.c0;have C:=h.c1;have q:Hid (Rd b s p d w):=h;have D:=h.lt;clear h;have E:((p:Int)==(s.size:Int))=xN:=So;delta Cp;go_in;go_wp2;go_quiet ((first|(go_at_call 20;exact Calls.quiet_of (cL (((q.o.alloc _).alloc _).drewN _)))|(go_at_call 79;exact Calls.quiet_of_same tZ)));go_wp2_with (go_at_call 31;refine(gU).mo ?_;rintro e w' ⟨N,rfl,j,c,f⟩;refine hO ?_);refine hZ ?_;have r:w.heap.size+2<=N:=by simpa using j
 have g:Bt w w':=(wK).t (f.mo So);have l:N<w'.heap.size:=(eE.1 c).1;have t:Hid (w'.heap[N]? =sT (Obj.cells #[Value.int UZ 2,Value.int UZ ↑p] 48)):=c;have i:Hid (Bt w w'):=g;have u:Box (w.heap.size+1) w':=Box.of (by rw[f.block _ Sm];exact new2);obtain⟨⟨F,G⟩,⟨H,I⟩,⟨J,K⟩,⟨L,M⟩,⟨O,P⟩,⟨Q,R⟩,S⟩:=u;clear j c f g;go_wp2;exact bodyPost_ret (v:=Tu #[El.nil.v,Pz N]) (by simp[results,results55,go_sem, *]) rfl ⟨N,rfl,by omega,by rw[Cv Om];exact t.o,B6 i.o Om⟩
end Rd
end
section
namespace Rd
open Go.RowKit
def El.cells(e:El):List Vu:=[Ii e.k,Ii e.n,.bool e.tr,Sg e.tx,Ii e.m,Sl e.a e.len e.cap]
abbrev El.sl(e:El):Vu:=Sl e.a e.len e.cap
abbrev NoB:Nat->Prop:=λ_=>False
structure Row (lo:Nat) (own:Nat->Prop) (w:Wd) (e:El) (es:List El):Prop where
 len:es.length=e.len
 owns:w.ownsRow lo 56 6 e.sl e.len (es.flatMap El.cells)
 far:∀g,own g->e.sl.ownBlock≠sT g
def Rep(lo:Nat)(own:Nat->Prop)(w:Wd):Nat->El->Dt->Prop
 |0,_,_=>False
 |m+1,e,t=>
  (e.k=0/\t=.num e.n/\-9223372036854775808<=e.n/\e.n<=9223372036854775807/\e.len=0/\e.tr=xN/\e.tx=⟨#[]⟩)\/(e.k=1/\t=.bool e.tr/\e.len=0/\e.n=0/\e.tx=⟨#[]⟩)\/(e.k=2/\t=.str e.tx.data.toList/\e.len=0/\e.n=0/\e.tr=xN)\/(e.k=3/\t=.sym e.tx.data.toList e.m/\e.len=0)\/
  (e.k=4/\∃(es:List El) (ts:List Dt),t=.list ts/\es.length=ts.length/\Row lo own w e es/\∀(i:Nat) (x:El) (u:Dt),es[i]? =sT x->ts[i]? =sT u->Rep lo own w m x u)
theorem tL{e:TypeId}{z:Nat}{v:Vu}(h:w.ownsRow lo e z v n xs)(c:r<=lo):w.ownsRow r e z v n xs:=by refine⟨h.1,?_⟩;rcases h.2 with h|⟨g,cap,b,d,f,a⟩;exact .inl h;exact .inr ⟨g,cap,b,d,eT c f,a⟩
theorem Row.kept{lo:Nat}{own:Nat->Prop}{row:Option Nat}{w w':Wd}{e:El}{es:List El}(h:Row lo own w e es)(a:w.grownBy w' row)(b:∀g,row=sT g->g<lo\/own g):Row lo own w' e es:=by refine⟨h.len,h.owns.kept a ?_,h.far⟩;cases hv:e.sl.ownBlock with|none=>exact .inl rfl|some k=>right;intro c;have d:=h.owns.lt k hv;rcases b k c.symm with h2|h2;omega;exact h.far k h2 hv
theorem Rep.kept{lo:Nat}{own:Nat->Prop}{row:Option Nat}{w w':Wd}(c:w.grownBy w' row)(d:∀g,row=sT g->g<lo\/own g):∀{m:Nat} {e:El} {t:Dt},Rep lo own w m e t->Rep lo own w' m e t
 |0,_,_,h=>False.elim h
 |m+1,e,t,h=>by rcases h with h|h|h|h|⟨f,es,ts,j,k,a,b⟩;exact .inl h;exact .inr (.inl h);exact .inr (.inr (.inl h));exact .inr (.inr (.inr (.inl h)));exact .inr (.inr (.inr (.inr ⟨f,es,ts,j,k,a.kept c d,λi x u l n=>Rep.kept c d (b i x u l n)⟩)))
theorem Rep.turn{lo c:Nat}{own b:Nat->Prop}{w:Wd}(d:c<=lo)(j:∀g,b g->own g\/w.heap.size<=g\/g<lo):∀{m:Nat} {e:El} {t:Dt},Rep lo own w m e t->Rep c b w m e t
 |0,_,_,h=>False.elim h
 |m+1,e,t,h=>by rcases h with h|h|h|h|⟨n,es,ts,o,p,a,f⟩;exact .inl h;exact .inr (.inl h);exact .inr (.inr (.inl h));exact .inr (.inr (.inr (.inl h)));refine .inr (.inr (.inr (.inr ⟨n,es,ts,o,p,⟨a.len,tL a.owns d,λg q k=>?_⟩,λi x u l h2=>Rep.turn d j (f i x u l h2)⟩)));have l:=a.owns.lt g k;rcases j g q with h2|h2|h2;exact a.far g h2 k;omega;omega
def Res(b:Nat)(s:BA)(d:Nat)(r:Py.R)(w:Wd)(e:En)(w':Wd):Prop:=
 Only b w w'/\
 match r with
 | .inl (c,k)=>∃N,e=Rt (Tu #[El.nil.v,Pz N])/\w.heap.size<=N/\w'.heap[N]? =sT (Cl #[Ii (c:Int),Ii ((s.size-k:Nat):Int)] 48)/\∃p',Rd b s p' d w'
 | .inr (ts,r)=>∃(x:El) (t:Dt),ts=[t]/\e=Rt (Tu #[x.v,.pointer sV])/\Rep w.heap.size NoB w' (32-d) x t/\Rd b s (s.size-r.length) d w'
abbrev jC(w:Wd)(g:Nat)(v0 v1 v2 v3 v4 v5:Vu):Wd:=(((((w.setCell (Aa g) v0).setCell (Ab g 1) v1).setCell (Ab g 2) v2).setCell (Ab g 3) v3).setCell (Ab g 4) v4).setCell (Ab g 5) v5
theorem lV(w:Wd)(g:Nat)(v0 v1 v2 v3 v4 v5:Vu):w.grownBy (jC w g v0 v1 v2 v3 v4 v5) (sT g):=((((((Only.refl g w).set 0 v0).set 1 v1).set 2 v2).set 3 v3).set 4 v4).set 5 v5
theorem Only.new(h:Only b w w')(a:w'.grownBy w2 (sT g))(d:w.heap.size<=g):Only b w w2:=⟨a.os.t h.os,a.tape.t h.tape,a.output.t h.output,eT h.size a.size,λi c hne=>(a.block i (eW c h.size) Ia).t (h.block i c hne)⟩
theorem Only.of(h:Only b w a0)(k:Bt a0 w2):Only b w w2:=⟨k.os.t h.os,k.tape.t h.tape,k.output.t h.output,eT h.size k.size,λi a c=>(k.block i (eW a h.size)).t (h.block i a c)⟩
theorem Rd.kept{d:Nat}{row:Option Nat}(h:Rd b s p d w)(a:w.grownBy w' row)(hne:sT b≠row):Rd b s p d w':=by have:=h.lt;unfold Rd at*;rw[a.block b this hne];exact h
theorem Rd.below{d:Nat}(h:Rd b s p d w)(a:Below B w w')(c:b<B):Rd b s p d w':=by unfold Rd at*;rw[a.block b c];exact h
theorem RI{c:Prop}(h:c:=by
  obtain⟨c0,c1,c2,c3,c4,c5,fz⟩:=h;exact⟨by rw[e];exact c0,by rw[e];exact c1,by rw[e];exact c2,by rw[e];exact c3,by rw[e];exact c4,by rw[e];exact c5,λo=>by rw[f];exact fz o⟩):c:=h
theorem Box.below(h:Box g w)(a:Below B w w')(b:g<B):Box g w':=by have e:∀o,w'.cell? (Ab g o)=w.cell? (Ab g o):=λo=>a.cell (p:=Ab g o) b;have f:∀o,w'.frozen? (Ab g o)=w.frozen? (Ab g o):=λo=>a.frozen (p:=Ab g o) b;exact RI
theorem Box.new(w:Wd)(v0 v1 v2 v3 v4 v5:Vu):Box w.heap.size (w.alloc (Cl #[v0,v1,v2,v3,v4,v5] 56)):=Box.of (eN w _)
theorem Box.set(h:Box g w)(hne:g≠b)(v:Vu):Box g (w.setCell (Ab b o) v):=by have a:=Below.heap_setCell w (Ab b o) v g hne;have e:∀o',(w.setCell (Ab b o) v).cell? (Ab g o')=w.cell? (Ab g o'):=λo'=>VA (w:=w) a;have f:∀o',(w.setCell (Ab b o) v).frozen? (Ab g o')=w.frozen? (Ab g o'):=λo'=>VB (w:=w) a;exact RI
theorem Box.drewN(h:Box g w)(n:Nat):Box g (w.drewN n):=⟨h.c0,h.c1,h.c2,h.c3,h.c4,h.c5,h.fz⟩
theorem Box.new1(w:Wd)(a:Addr)(u v0 v1 v2 v3 v4 v5:Vu):Box w.heap.size ((w.setCell a u).alloc (Cl #[v0,v1,v2,v3,v4,v5] 56)):=by have:=Box.new (w.setCell a u) v0 v1 v2 v3 v4 v5;rwa [show(w.setCell a u).heap.size=w.heap.size from by simp]at this
theorem Box.kept{row:Option Nat}(h:Box g w)(c:w.grownBy w' row)(hne:sT g≠row)(a:g<w.heap.size):Box g w':=by have b:=c.block g a hne;have e:∀o',w'.cell? (Ab g o')=w.cell? (Ab g o'):=λo'=>VA (w:=w) b;have f:∀o',w'.frozen? (Ab g o')=w.frozen? (Ab g o'):=λo'=>VB (w:=w) b;exact RI
theorem Box.new2(w:Wd)(a b:Addr)(u c v0 v1 v2 v3 v4 v5:Vu):Box w.heap.size (((w.setCell a u).setCell b c).alloc (Cl #[v0,v1,v2,v3,v4,v5] 56)):=by have:=Box.new ((w.setCell a u).setCell b c) v0 v1 v2 v3 v4 v5;rwa [show((w.setCell a u).setCell b c).heap.size=w.heap.size from by simp]at this
theorem Res.err{d c k r g:Nat}{z A:Int}(j:Only b w w')(l:w.heap.size<=g)(a:w.heap.size<=r)(f:r≠g)(m:w'.heap[r]? =sT (Cl #[Ii z,Ii A] 48))(n:z=(c:Int))(h:A=((s.size-k:Nat):Int)){i:Nat}(o:Rd b s i d w')(p:b<w.heap.size)(v0 v1 v2 v3 v4 v5:Vu):Res b s d (.inl (c,k)) w (Rt (Tu #[El.nil.v,Pz r])) (jC w' g v0 v1 v2 v3 v4 v5):=by subst n;subst h;exact⟨j.new (lV _ _ _ _ _ _ _ _) l,r,rfl,a,by rw[Cv f];exact m,i,o.kept (lV _ _ _ _ _ _ _ _) Ia⟩
theorem Res.ok{d:Nat}{x:El}{t:Dt}(c:Only b w w')(f:w.heap.size<=g)(a:g<lo)(l:b<w.heap.size)(i:Rep lo NoB w' (32-d) x t)(j:Rd b s p d w')(k:p=s.size-g0.length)(v0 v1 v2 v3 v4 v5:Vu):Res b s d (.inr ([t],g0)) w (Rt (Tu #[x.v,.pointer sV])) (jC w' g v0 v1 v2 v3 v4 v5):=by subst k;refine⟨c.new (lV _ _ _ _ _ _ _ _) f,x,t,rfl,rfl,Rep.turn (lo:=lo) (own:=NoB) Om (λg h=>by cases h) (Rep.kept (lV _ _ _ _ _ _ _ _) (λm h=>by cases h;exact .inl a) i),j.kept (lV _ _ _ _ _ _ _ _) Ia⟩
theorem TA{c:Prop}(h:c:=by
  obtain⟨hO,x,t,ht,he,hrep,hR⟩:=h;exact⟨hO.alloc o,x,t,ht,he,Rep.kept (World.grownBy_alloc w' o sV) (λg h=>by cases h) hrep,hR.alloc o⟩):c:=h
theorem SN{c:Prop}(h:c:=by
  obtain⟨hO,N,he,hN0,hN,p',hR⟩:=h;exact⟨hO.alloc o,N,he,hN0,by rw[eH _ _ _ (eE.1 hN).1];exact hN,p',hR.alloc o⟩):c:=h
theorem Res.alloc{d:Nat}{a:Py.R}(h:Res b s d a w e w')(o:Obj):Res b s d a w e (w'.alloc o):=by rcases a with⟨c,k⟩|⟨ts,f⟩;exact SN;exact TA
end Rd
end
section
namespace Rd
open Go.RowKit
theorem wC{t:Dt}(h:∀a:q<s.size,Px.endB s[q]=xA):Py.closed t (L s q)=.inr ([t],L s q):=by by_cases a:q<s.size;rw[dD s q a];simp[Py.closed,h a];rw[kP s q Om];rfl
theorem wD{t:Dt}(a:q<s.size)(h:Px.endB s[q]=xN):Py.closed t (L s q)=.inl (2,s.size-q):=by rw[dD s q a];simp[Py.closed,h,eS];omega
theorem Jk(s:BA)(p:Nat)(h:p+1=s.size):Py.truth (L s (p+1))=.inl (2,s.size-p):=by rw[kP s (p+1) Om];simp[Py.truth];omega
theorem Jg(p:Nat)(h:p+1<s.size)(a:((s[p+1].toNat:Int)==116)=xA):Py.truth (L s (p+1))=Py.closed (.bool xA) (L s (p+2)):=by have:=beq_iff_eq.1 a;rw[dD s (p+1) h,Py.truth,if_pos Om]
theorem Jj(p:Nat)(h:p+1<s.size)(a:((s[p+1].toNat:Int)==116)=xN)(b:((s[p+1].toNat:Int)==102)=xA):Py.truth (L s (p+1))=Py.closed (.bool xN) (L s (p+2)):=by have:=beq_iff_eq.1 b;have:=beq_eq_false_iff_ne.1 a;rw[dD s (p+1) h,Py.truth,if_neg Om,if_pos Om]
theorem Jh(p:Nat)(h:p+1<s.size)(a:((s[p+1].toNat:Int)==116)=xN)(b:((s[p+1].toNat:Int)==102)=xN):Py.truth (L s (p+1))=.inl (2,s.size-p):=by have:=beq_eq_false_iff_ne.1 b;have:=beq_eq_false_iff_ne.1 a;rw[dD s (p+1) h,Py.truth,if_neg Om,if_neg Om,eS];congr 2;omega
theorem QS{c:Prop}(h:c:=by
  have hsz:w.heap.size+1<=N:=by simpa using hN
  have hO:Only b w w':=Only.of (((Only.refl b w).set _ _).alloc _|>.drewN _) hbl;have HR9:=hZ ((((HR.o.set1 (p+1) _ Om).alloc _).drewN _).below hbl (by first|omega|(simp;done)|(simp;omega)));have hx:Box w.heap.size w':=((Box.new1 w _ _ _ _ _ _ _ _).drewN _).below hbl Sm;obtain⟨⟨y0,k0⟩,⟨y1,k1⟩,⟨y2,k2⟩,⟨y3,k3⟩,⟨y4,k4⟩,⟨y5,k5⟩,kf⟩:=hx;have HN2:=hZ hN2;have HO:=hZ hO;clear hN hN2 hbl hO;refine hZ ?_;go_wp2;refine bodyPost_ret (v:=Tu #[El.nil.v,Pz N]) (by simp[results,results36,go_sem, *]) rfl ?_;rw[HT.o];exact Res.err HO.o (eR _) Om Om HN2.o rfl Om HR9.o Om _ _ _ _ _ _):c:=h
theorem QR{c:Prop}(h:c:=by
  have HN2:=hZ hN2;have HO2:=hZ (Only.of HO1.o hbl);have HR9:=hZ (HR1.o.below hbl (by first|omega|(simp;done)|(simp;omega)));obtain⟨⟨y0,k0⟩,⟨y1,k1⟩,⟨y2,k2⟩,⟨y3,k3⟩,⟨y4,k4⟩,⟨y5,k5⟩,kf⟩:=HX1.o.below hbl Om;clear hbl hN2;refine hZ ?_;go_wp2;refine bodyPost_ret (v:=Tu #[El.nil.v,Pz N]) (by simp[results,results36,go_sem, *]) rfl ?_;rw[HT.o,HC.o];exact Res.err HO2.o (eR _) Om Om HN2.o rfl Om HR9.o Om _ _ _ _ _ _):c:=h
theorem QQ{c:Prop}(h:c:=by
  rw[HT.o,HC.o];exact Res.ok HO2.o (eR _) (Nat.lt_succ_self _) hb (by rw[show 32-d=(31-d)+1 from by omega];exact .inr (.inl ⟨rfl,rfl,rfl,rfl,rfl⟩)) HR2.o (by rw[eS];omega) _ _ _ _ _ _):c:=h
theorem Jm{d:Nat}(h:Rd b s p d w)(u:p<s.size)(x:s.size<=1200)(t:d<=30):Cp 36 #[Pz b] w λe w'=>Res b s d (Py.truth (L s (p+1))) w e w':=by
 have y:=h.c1;have z:=h.fz 1;have hb:=h.lt;have HR:Hid (Rd b s p d w):=h;clear h;by_cases f:p+1<s.size;·cases ct:((s[p+1].toNat:Int)==116);(·cases cf:((s[p+1].toNat:Int)==102);(·have HT:Hid (Py.truth (L s (p+1))=.inl (2,s.size-p)):=Jh p f ct cf;delta Cp;go_in;go_wp2_with (first|(go_at_call 50;refine iC (jR d _ _ (by first|exact(HR.o.set1 (p+1) _ Om).alloc _|exact((HR.o.set1 (p+1) _ Om).alloc _).drewN _) f) λo=>?_)|(go_at_call 31;refine(gU).mo ?_;rintro e w' ⟨N,rfl,hN,hN2,hbl⟩;refine hO ?_));exact QS);have HT:Hid (Py.truth (L s (p+1))=Py.closed (.bool xN) (L s (p+2))):=Jj p f ct cf;delta Cp;go_in;go_wp2_with (first|(go_at_call 50;refine iC (jR d _ _ (by first|exact(HR.o.set1 (p+1) _ Om).alloc _|exact((HR.o.set1 (p+1) _ Om).alloc _).drewN _) f) λo=>?_)|(go_at_call 56;refine iF Af λw1 hbl=>?_;refine hO ?_));have g:Rd b s (p+2) d w1:=((((HR.o.set1 (p+1) _ Om).alloc _).drewN _).set1 (p+2) _ Om).below hbl So;have i:Only b w w1:=Only.of ((((Only.refl b w).set _ _).alloc _|>.drewN _).set _ _) hbl;have j:Box w.heap.size w1:=(((Box.new1 w _ _ _ _ _ _ _ _).drewN _).set Om _).below hbl Sm;(have q:w.heap.size+1<=w1.heap.size:=by have:=hbl.size;simp at this;omega);obtain⟨HR1,HO1,HX1⟩:=cB g i j;clear hbl g i j;refine hZ ?_;by_cases c:∀f:p+2<s.size,Px.endB s[p+2]=xA;(·have HC:Hid (Py.closed (.bool xN) (L s (p+2))=.inr ([.bool xN],L s (p+2))):=wC c;have n:=hZ c;clear c;go_wp2_with (go_at_call 55;refine iF (wA ⟨1,0,xN,⟨#[]⟩,0,sV,0,0⟩ HR1.o n.o Om) λw2 hbl=>?_;refine hO ?_);obtain⟨HR2,HO2,HR9⟩:=cB (HR1.o.below hbl Om) (Only.of HO1.o hbl) (HR1.o.below hbl (by first|omega|(simp;done)|(simp;omega)));obtain⟨⟨y0,k0⟩,⟨y1,k1⟩,⟨y2,k2⟩,⟨y3,k3⟩,⟨y4,k4⟩,⟨y5,k5⟩,kf⟩:=HX1.o.below hbl Om;clear hbl;refine hZ ?_;go_wp2;refine bodyPost_ret (v:=Tu #[El.v ⟨1,0,xN,⟨#[]⟩,0,sV,0,0⟩,.pointer sV]) (by simp[results,results36,go_sem, *]) rfl ?_;exact QQ);(have k:∃f:p+2<s.size,Px.endB s[p+2]=xN:=by rcases VD.1 c with⟨a,r⟩;exact⟨a,by simpa using r⟩);obtain⟨l,m⟩:=k;have HC:Hid (Py.closed (.bool xN) (L s (p+2))=.inl (2,s.size-(p+2))):=wD l m;clear c;go_wp2_with (go_at_call 55;refine(wB ⟨1,0,xN,⟨#[]⟩,0,sV,0,0⟩ HR1.o l m).mo ?_;rintro e w2 ⟨N,rfl,hN,hN2,hbl⟩;refine hO ?_);exact QR);have HT:Hid (Py.truth (L s (p+1))=Py.closed (.bool xA) (L s (p+2))):=Jg p f ct;delta Cp;go_in;go_wp2_with (first|(go_at_call 50;refine iC (jR d _ _ (by first|exact(HR.o.set1 (p+1) _ Om).alloc _|exact((HR.o.set1 (p+1) _ Om).alloc _).drewN _) f) λo=>?_)|(go_at_call 56;refine iF Af λw1 hbl=>?_;refine hO ?_));have g:Rd b s (p+2) d w1:=((((HR.o.set1 (p+1) _ Om).alloc _).drewN _).set1 (p+2) _ Om).below hbl So;have i:Only b w w1:=Only.of ((((Only.refl b w).set _ _).alloc _|>.drewN _).set _ _) hbl;have j:Box w.heap.size w1:=(((Box.new1 w _ _ _ _ _ _ _ _).drewN _).set Om _).below hbl Sm;(have q:w.heap.size+1<=w1.heap.size:=by have:=hbl.size;simp at this;omega);obtain⟨HR1,HO1,HX1⟩:=cB g i j;clear hbl g i j;refine hZ ?_;by_cases c:∀f:p+2<s.size,Px.endB s[p+2]=xA;(·have HC:Hid (Py.closed (.bool xA) (L s (p+2))=.inr ([.bool xA],L s (p+2))):=wC c;have n:=hZ c;clear c;go_wp2_with (go_at_call 55;refine iF (wA ⟨1,0,xA,⟨#[]⟩,0,sV,0,0⟩ HR1.o n.o Om) λw2 hbl=>?_;refine hO ?_);obtain⟨HR2,HO2,HR9⟩:=cB (HR1.o.below hbl Om) (Only.of HO1.o hbl) (HR1.o.below hbl (by first|omega|(simp;done)|(simp;omega)));obtain⟨⟨y0,k0⟩,⟨y1,k1⟩,⟨y2,k2⟩,⟨y3,k3⟩,⟨y4,k4⟩,⟨y5,k5⟩,kf⟩:=HX1.o.below hbl Om;clear hbl;refine hZ ?_;go_wp2;refine bodyPost_ret (v:=Tu #[El.v ⟨1,0,xA,⟨#[]⟩,0,sV,0,0⟩,.pointer sV]) (by simp[results,results36,go_sem, *]) rfl ?_;exact QQ);(have k:∃f:p+2<s.size,Px.endB s[p+2]=xN:=by rcases VD.1 c with⟨a,r⟩;exact⟨a,by simpa using r⟩);obtain⟨l,m⟩:=k;have HC:Hid (Py.closed (.bool xA) (L s (p+2))=.inl (2,s.size-(p+2))):=wD l m;clear c;go_wp2_with (go_at_call 55;refine(wB ⟨1,0,xA,⟨#[]⟩,0,sV,0,0⟩ HR1.o l m).mo ?_;rintro e w2 ⟨N,rfl,hN,hN2,hbl⟩;refine hO ?_);exact QR
 have HT:Hid (Py.truth (L s (p+1))=.inl (2,s.size-p)):=Jk s p Om;delta Cp;go_in;go_wp2_with (first|(go_at_call 50;refine iC (yF s (p+1) d (by first|exact(HR.o.set1 (p+1) _ Om).alloc _|exact((HR.o.set1 (p+1) _ Om).alloc _).drewN _) Om) λo=>?_)|(go_at_call 31;refine(gU).mo ?_;rintro e w' ⟨N,rfl,hN,hN2,hbl⟩;refine hO ?_));exact QS
end Rd
end
section
namespace Rd
open Go.RowKit
structure Scan (P:UInt8->Bool) (s:BA) (a q:Nat):Prop where
 le:a<=q
 lim:q<=s.size
 all:∀i (h:i<s.size),a<=i->i<q->P s[i]=xA
theorem Scan.refl(P:UInt8->Bool)(s:BA)(a:Nat)(h:a<=s.size):Scan P s a a:=⟨eR _,h,λi _ b c=>by omega⟩
theorem Scan.next{a:Nat}(h:Scan P s a q)(f:q<s.size)(b:P s[q]=xA):Scan P s a (q+1):=⟨by have:=h.le;omega,by omega,λi c d g=>by by_cases e:i=q;subst e;exact b;exact h.all i c d Om⟩
theorem Dp(s:BA)(a q:Nat):(s.extract a q).data.toList=(L s a).take (q-a):=by unfold L;rw[ByteArray.data_extract,Array.toList_extract,List.extract_eq_take_drop]
theorem Scan.ends{P:UInt8->Bool}{s:BA}:∀(n a q:Nat),q=a+n->Scan P s a q->(∀h:q<s.size,P s[q]=xN)->(L s a).takeWhile P=(L s a).take (q-a)/\(L s a).dropWhile P=L s q
 |0,a,q,e,h,hq=>by have d:q=a:=Om;subst d;by_cases b:q<s.size;rw[dD s q b];simp[VE,UR,hq b];rw[kP s q Om];simp
 |n+1,a,q,e,h,hq=>by (have b:a<s.size:=by have:=h.lim;omega);have f:=h.all a b (eR _) Om;have c:=Scan.ends n (a+1) q Om ⟨by omega,h.lim,λi g k j=>h.all i g Om j⟩ hq;rw[dD s a b];rw[show q-a=(q-(a+1))+1 from by omega];simp[VE,UR,f,c.1,c.2]
theorem Scan.fin{a:Nat}(h:Scan P s a q)(b:∀h:q<s.size,P s[q]=xN):(L s a).takeWhile P=(s.extract a q).data.toList/\(L s a).dropWhile P=L s q:=by have:=Scan.ends (q-a) a q (by have:=h.le;omega) h b;rw[Dp s a q];exact this
theorem Lh{a:Nat}(h:Scan Px.strB s a q)(e:q=s.size):Py.str (L s a)=.inl (3,0):=by have f:=h.fin (λb=>by omega);unfold Py.str;rw[f.2,kP s q Om]
theorem Lf{a:Nat}(h:Scan Px.strB s a q)(b:q<s.size)(c:((s[q].toNat:Int)==34)=xA):Py.str (L s a)=.inr ([.str (s.extract a q).data.toList],L s (q+1)):=by
 have e:s[q].toNat=34:=by have:=beq_iff_eq.1 c;omega
 have f:=h.fin (λd=>by unfold Px.strB;simp[e]);unfold Py.str;rw[f.1,f.2,dD s q b];simp[e]
theorem Li{a:Nat}(h:Scan Px.strB s a q)(b:q<s.size)(c:Px.strB s[q]=xN)(d:((s[q].toNat:Int)==34)=xN):Py.str (L s a)=.inl (2,s.size-q):=by
 have e:s[q].toNat≠34:=by have:=beq_eq_false_iff_ne.1 d;omega
 have f:=h.fin (λg=>c);unfold Py.str;rw[f.2,dD s q b];simp[e,eS];omega
theorem QT{c:Prop}(h:c:=by
  have hO2:Only b w w':=Only.of (HO.o.drewN _) hbl;have HR9:=hZ ((HRq.o.drewN _).below hbl (by first|omega|(simp;done)|(simp;omega)));have hx:Box w.heap.size w':=(HX.o.drewN _).below hbl (by simp;try omega);have hsz:w.heap.size+1<=N:=by simp at hN;omega
  obtain⟨⟨y0,k0⟩,⟨y1,k1⟩,⟨y2,k2⟩,⟨y3,k3⟩,⟨y4,k4⟩,⟨y5,k5⟩,kf⟩:=hx;have HN2:=hZ hN2;have HO2:=hZ hO2;clear hN hN2 hbl hO2;refine hZ ?_;go_wp2;refine bodyPost_ret (v:=Tu #[El.nil.v,Pz N]) (by simp[results,results35,go_sem, *]) rfl ?_;rw[HT.o];exact Res.err HO2.o (eR _) Om Om HN2.o rfl Om HR9.o Om _ _ _ _ _ _):c:=h
theorem Ky{d:Nat}(h:Rd b s p d w)(D:p<s.size)(E:s.size<=1200)(k:d<=30):Cp 35 #[Pz b] w λe w'=>Res b s d (Py.str (L s (p+1))) w e w':=by
 have F:=h.c1;have G:=h.fz 1;have o:=h.lt;have r:Hid (Rd b s p d w):=h;clear h;delta Cp;go_in;go_wp2;go_loopw [] (λwr=>∃q,Scan Px.strB s (p+1) q/\Rd b s q d wr/\Only b w wr/\Box w.heap.size wr/\w.heap.size<wr.heap.size) (λwr=>s.size-eD b wr);case atStart=>exact⟨p+1,Scan.refl _ _ _ Om,(r.o.set1 (p+1) _ Om).alloc _,((Only.refl b w).set _ _).alloc _,Box.new1 w _ _ _ _ _ _ _ _,by simp⟩
 case round=>obtain⟨q,g,c,l,m,t⟩:=hrel;have u:=c.c0;have x:=c.c1;have y:=c.fz 1;have H:=g.lim;have z:=g.le;obtain⟨HRq,HO,HX,i⟩:=dT c l m g;have f:Hid (eD b wr=q):=c.pos;clear c l m g;by_cases a:q<s.size;(·have A:((q:Int)==(s.size:Int))=xN:=So;cases hc:Px.strB s[q];(·cases cq:((s[q].toNat:Int)==34);(·have HT:Hid (Py.str (L s (p+1))=.inl (2,s.size-q)):=Li i.o a hc cq;go_wp2;go_quiet ((first|(go_at_call 20;exact Calls.quiet_of (cL (HRq.o.drewN _)))|(go_at_call 53;exact Calls.quiet_of_same qP)));go_wp2_with (first|(go_at_call 20;refine iC (cL (HRq.o.drewN _)) λn=>?_)|(go_at_call 50;refine iC (jR d _ _ (HRq.o.drewN _) a) λB=>?_)|(go_at_call 31;refine(gU).mo ?_;rintro e w' ⟨N,rfl,hN,hN2,hbl⟩;refine hO ?_));exact QT);have HT:Hid (Py.str (L s (p+1))=.inr ([.str (s.extract (p+1) q).data.toList],L s (q+1))):=Lf i.o a cq;go_wp2;go_quiet ((first|(go_at_call 20;exact Calls.quiet_of (cL (HRq.o.drewN _)))|(go_at_call 53;exact Calls.quiet_of_same qP)));go_wp2_with (first|(go_at_call 20;refine iC (cL (HRq.o.drewN _)) λn=>?_)|(go_at_call 50;refine iC (jR d _ _ (HRq.o.drewN _) a) λB=>?_)|(go_at_call 54;refine iF UF λC hbl=>?_;refine hO ?_));go_quiet (fail);go_wp2_with (go_at_call 54;refine iF UF λC hbl=>?_;refine hO ?_);obtain⟨j,HO2⟩:=aN (((HRq.o.drewN _).set1 (q+1) _ Om).below hbl So) (Only.of ((HO.o.drewN _).set _ _) hbl);obtain⟨⟨y0,k0⟩,⟨y1,k1⟩,⟨y2,k2⟩,⟨y3,k3⟩,⟨y4,k4⟩,⟨y5,k5⟩,kf⟩:=((HX.o.drewN _).set Om _).below hbl So;clear hbl;refine hZ ?_;go_wp2;refine bodyPost_ret (v:=Tu #[El.v ⟨2,0,xN,s.extract (p+1) q,0,sV,0,0⟩,.pointer sV]) (by simp[results,results35,go_sem, *]) rfl ?_;rw[HT.o];exact Res.ok HO2.o (eR _) (VC _) o (by rw[show 32-d=(31-d)+1 from by omega];exact .inr (.inr (.inl ⟨rfl,rfl,rfl,rfl,rfl⟩))) j.o (by rw[eS];omega) _ _ _ _ _ _);go_wp2;go_quiet ((first|(go_at_call 20;exact Calls.quiet_of (cL (HRq.o.drewN _)))|(go_at_call 53;exact Calls.quiet_of_same qP)));go_wp2;go_roundw;(case rel=>exact⟨q+1,i.o.next a hc,(HRq.o.drewN _).set1 _ _ Om,(HO.o.drewN _).set _ _,(HX.o.drewN _).set Om _,by simpa using t⟩);case measure=>have e1:=f.o;have e2:=((HRq.o.drewN nq).set1 (q+1) ((q:Int)+1) Om).pos;rw[e1,e2];omega);have A:((q:Int)==(s.size:Int))=xA:=So;have HT:Hid (Py.str (L s (p+1))=.inl (3,0)):=Lh i.o Om;go_wp2;go_quiet ((first|(go_at_call 20;exact Calls.quiet_of (cL (HRq.o.drewN _)))|(go_at_call 53;exact Calls.quiet_of_same qP)));go_wp2_with (first|(go_at_call 20;refine iC (cL (HRq.o.drewN _)) λn=>?_)|(go_at_call 31;refine(gU).mo ?_;rintro e w' ⟨N,rfl,hN,hN2,hbl⟩;refine hO ?_));exact QT
end Rd
end
section
namespace Rd
open Go.RowKit
theorem Iu(l:List UInt8):Lib.trimPrefix l [45]=Px.unsign l:=by unfold Lib.trimPrefix Lib.hasPrefix Px.unsign;cases l with|nil=>simp|cons c r=>by_cases h:c=45;subst h;simp;have a:¬c.toNat=45:=λe=>h (by rw[<-UInt8.toNat_inj];simpa using e);simp[a,Ne.symm h]
theorem Iv(l:List UInt8):(Px.unsign l).length<=l.length:=by cases l with|nil=>simp[Px.unsign]|cons c r=>by_cases h:c.toNat=45;simp[Px.unsign,h];simp[Px.unsign,h]
theorem OZ(u:BA)(k:Nat)(h:k<u.size):(u.data.toList.take (k+1)).all Px.digB=((u.data.toList.take k).all Px.digB&&Px.digB u[k]):=by rw[List.take_succ_eq_append_getElem (by simpa using h),List.all_append];simp;rfl
theorem PA(h:k<u.size)(a:Px.digB u[k]=xN):u.data.toList.all Px.digB=xN:=by rw[List.all_eq_false];exact⟨u[k],by show u.data[k]∈_;simp,by simp[a]⟩
theorem qQ{t:BA}(j:t.size<=1200):Cp 59 #[Sg t] w λe w'=>e=Rt (.bool (Px.numB t.data.toList))/\w'=w:=by
 delta Cp;go_in;go_wp2_with (go_at_call 81;refine(Tryz.strings_TrimPrefix _ _ _).mo ?_;rintro e w' ⟨rfl,rfl⟩;refine hO ?_);refine hZ ?_;obtain⟨u,d⟩:∃u:BA,u=⟨(Lib.trimPrefix t.data.toList [45]).toArray⟩:=⟨_,rfl⟩;have b:u.data.toList=Px.unsign t.data.toList:=by rw[d,<-Iu]
 have h:u.size<=1200:=by have e1:u.size=u.data.toList.length:=Sm;have e2:t.size=t.data.toList.length:=Sm;rw[e1,b];have:=Iv t.data.toList;omega
 have f:=hZ b;clear b;simp only[<-d];clear d;go_wp2;go_loop [9] (λi=>∃k:Nat,k<=u.size/\i=Ii k/\(u.data.toList.take k).all Px.digB=xA) (λi=>u.size-(intOf i).toNat);case atStart=>exact⟨0,Nat.zero_le _,rfl,rfl⟩
 case round=>obtain⟨k,l,rfl,a⟩:=hrel;have g:=hZ a;clear a;by_cases c:k<u.size;(·cases hd:Px.digB u[k];(·go_wp2_with (go_at_call 57;refine(uQ).mo ?_;rintro e w' ⟨rfl,rfl⟩);go_ret;refine⟨?_,rfl⟩;unfold Px.numB;rw[<-f.o,PA c hd];rfl);go_wp2_with (go_at_call 57;refine Ds uQ ?_);go_round;(case rel=>exact⟨k+1,by omega,by go_num,by rw[OZ u k c,g.o,hd];rfl⟩);case measure=>simp[intOf];omega);go_wp2;go_ret;refine⟨?_,rfl⟩;have e:(u.data.toList.take k)=u.data.toList:=List.take_of_length_le So;have:=g.o;rw[e]at this;unfold Px.numB;rw[<-f.o,this];show Ending.returned (Value.bool !u.toList.isEmpty)=_;rw[Lib.toList_data];rfl
end Rd
end
section
namespace Rd
open Go.RowKit
theorem zW(M:Nat):∀(l:List UInt8) (a:Nat),l.all Px.digB=xA->(∃u,Lib.parseUintM M a l=.ok u)\/Lib.parseUintM M a l=.range
 |[],a,_=>.inl ⟨a,rfl⟩
 |c::r,a,h=>by (have b:Px.digB c=xA/\r.all Px.digB=xA:=by simpa using h);(have f:48<=c.toNat/\c.toNat<=57:=by simpa[Px.digB]using b.1);unfold Lib.parseUintM;rw[if_pos f];by_cases d:1844674407370955162<=a;rw[if_pos d];exact .inr rfl;rw[if_neg d];by_cases e:M<a*10+(c.toNat-48);rw[if_pos e];exact .inr rfl;rw[if_neg e];exact zW M r _ b.2
theorem Sr(l:List UInt8)(h:Px.numB l=xA):(∃v,Lib.parseIntB 64 l=.ok v)\/Lib.parseIntB 64 l=.range:=by unfold Px.numB at h;rw[Bool.and_eq_true]at h;obtain⟨b,a⟩:=h;cases l with|nil=>simp[Px.unsign]at a|cons c r=>(have hne:(if c.toNat=43\/c.toNat=45 then r else c::r)=Px.unsign (c::r):=by unfold Px.unsign;by_cases e:c.toNat=45;simp[e];(have e3:¬c.toNat=43:=by intro e3;(have:Px.digB c=xA/\r.all Px.digB=xA:=by simpa[Px.unsign,e]using b);simp[Px.digB,e3]at this);simp[e,e3]);(have d:Px.unsign (c::r)≠[]:=by intro e;rw[e]at a;simp at a);have f:=zW (2 ^ 64-1) _ 0 b;(have g:Lib.parseUintB 64 (Px.unsign (c::r))=Lib.parseUintM (2 ^ 64-1) 0 (Px.unsign (c::r)):=by unfold Lib.parseUintB;rw[if_neg d]);unfold Lib.parseIntB;simp only[hne,g];rcases f with⟨u,hu⟩|hu;rw[hu];simp only;split;exact .inr rfl;split;exact .inr rfl;exact .inl ⟨_,rfl⟩;rw[hu];exact .inr rfl
def GV(w:Wd):Prop:=∃tp p,w.var? prog "strconv.ErrRange" =sT #[If tp p]
theorem errRange_no:prog.globalNamed "strconv.ErrRange" =sT 2:=Kr
theorem Only.below(h:Only b w w')(a:B<=b)(c:B<=w.heap.size):Below B w w':=⟨h.os,h.tape,h.output,h.size,λk d=>h.block k Om Ia⟩
theorem GV.only(h:GV w)(a:Only b w w')(c:6<=b)(d:6<=w.heap.size):GV w':=by obtain⟨e,p,h⟩:=h;exact⟨e,p,var?_below (a.below c d) errRange_no Om h⟩
theorem Hr(h:Scan Px.wordB s p q)(a:∀h:q<s.size,Px.wordB s[q]=xN):Py.word (L s p)=Py.wordOf (s.extract p q).data.toList (L s q):=by unfold Py.word;rw[(h.fin a).1,(h.fin a).2]
theorem Hu(a:p<=q)(b:q<=s.size):(s.extract p q).data.toList.length+(L s q).length=s.size-p:=by rw[Dp,List.length_take,eS,eS];omega
theorem Ss{v:Int}(a:u.size<=9223372036854775806)(h:Lib.parseIntB 64 u.data.toList=.ok v):Cp 60 #[Sg u,Ii 10,Ii 64] w λe w'=>e=Rt (Tu #[Ii v,.nilIface])/\Bt w w':=by refine iF (Tryz.strconv_ParseInt_10_at64_ok u a v h w) λc b=>?_;refine⟨rfl,?_⟩;rcases b with rfl|⟨t,rfl⟩;exact Below.refl _ _;exact Lib.bytesWorld_below _ _ _
theorem WE{c:Prop}(h:c:=by
  have hO2:Only b w w':=Only.of HO1.o hbl;have HR9:=hZ (HR1.o.below hbl (by first|omega|(simp;done)|(simp;omega)));have hx:Box w.heap.size w':=HX1.o.below hbl (by first|omega|(simp;done)|(simp;omega));have hsz:w.heap.size+1<=N:=by first|omega|(simp at hN;omega)
  obtain⟨⟨y0,k0⟩,⟨y1,k1⟩,⟨y2,k2⟩,⟨y3,k3⟩,⟨y4,k4⟩,⟨y5,k5⟩,kf⟩:=hx;replace hN2:=hZ hN2;replace hO2:=hZ hO2;clear hN hbl;refine hZ ?_;go_wp2;refine bodyPost_ret (v:=Tu #[El.nil.v,Pz N]) ?_ rfl ?_;simp[results,results38,go_sem, *];rw[HT.o];exact Res.err hO2.o (eR _) Om Om hN2.o rfl Om HR9.o Om _ _ _ _ _ _):c:=h
theorem WC{c:Prop}(h:c:=by
  by_cases hcl:∀hlt:q<s.size,Px.endB s[q]=xA
  ·replace HT:=hZ (HT.o.t (wC hcl));replace hcl:=hZ hcl;go_wp2_with (go_at_call 55;refine(wA ⟨_,_,_,_,_,_,_,_⟩ HR1.o hcl.o Om).mo ?_;rintro e w9 ⟨rfl,hbl⟩;refine hO ?_)
   have HR2:=hZ (HR1.o.below hbl Om);have HO2:=hZ (Only.of HO1.o hbl);obtain⟨⟨y0,k0⟩,⟨y1,k1⟩,⟨y2,k2⟩,⟨y3,k3⟩,⟨y4,k4⟩,⟨y5,k5⟩,kf⟩:=HX1.o.below hbl Om;clear hbl;refine hZ ?_;go_wp2;refine bodyPost_ret (v:=Tu #[El.v ⟨_,_,_,_,_,_,_,_⟩,.pointer sV]) (by simp[results,results38,go_sem, *];and_intros<;>rfl) rfl ?_;rw[HT.o];exact Res.ok HO2.o (eR _) (Nat.lt_succ_self _) hb (by rw[show 32-d=(31-d)+1 from by omega];first|exact .inr (.inr (.inr (.inl ⟨rfl,rfl,rfl⟩)))|exact .inl ⟨rfl,rfl,by have:=HVB.o.1;show _<=v;simpa using this,(by have:=HVB.o.2;simp at this;show v<=_;omega),rfl,rfl,rfl⟩) HR2.o (by rw[eS];omega) _ _ _ _ _ _
  ·obtain⟨hl2,he2⟩:∃hlt:q<s.size,Px.endB s[q]=xN:=by
    rcases Classical.not_forall.1 hcl with⟨a,ha⟩;exact⟨a,by simpa using ha⟩
   clear hcl;first
    |exact absurd hl2 hlt
    |replace HT:=hZ (HT.o.t (wD hl2 he2))
     go_wp2_with (go_at_call 55;refine(wB ⟨_,_,_,_,_,_,_,_⟩ HR1.o hl2 he2).mo ?_;rintro e w' ⟨N,rfl,hN,hN2,hbl⟩;refine hO ?_)
     exact WE):c:=h
theorem Hq{d:Nat}(h:Rd b s p d w)(hp:p<s.size)(hs:s.size<=1200)(G:d<=30)(H:GV w)(z:6<=b):Cp 38 #[Pz b] w λe w'=>Res b s d (Py.word (L s p)) w e w':=by
 have h1:=h.c1;have hf:=h.fz 1;have hb:=h.lt;have P:Hid (Rd b s p d w):=h;have Q:=hZ H;clear h H;delta Cp;go_in;go_wp2;go_loopw [] (λwr=>∃q,Scan Px.wordB s p q/\Rd b s q d wr/\Only b w wr/\Box w.heap.size wr/\w.heap.size<wr.heap.size) (λwr=>s.size-eD b wr);case atStart=>exact⟨p,Scan.refl _ _ _ Om,P.o.alloc _,(Only.refl b w).alloc _,Box.new w _ _ _ _ _ _,by simp⟩
 case round=>obtain⟨q,y,k,I,J,R⟩:=hrel;have S:=k.c0;have T:=k.c1;have U:=k.fz 1;have V:=y.lim;have A:=y.le;obtain⟨a,B,K,M⟩:=dT k I J y;have l:Hid (eD b wr=q):=k.pos;clear k I J y;by_cases hlt:q<s.size;(case' pos=>have W:((q:Int)==(s.size:Int))=xN:=So;cases hc:Px.wordB s[q];case true=>go_wp2;go_quiet ((first|(go_at_call 20;exact Calls.quiet_of (cL (a.o.drewN _)))|(go_at_call 37;exact Calls.quiet_of_same oT)));go_wp2;go_roundw;(case rel=>exact⟨q+1,M.o.next hlt hc,(a.o.drewN _).set1 _ _ Om,(B.o.drewN _).set _ _,(K.o.drewN _).set Om _,by simpa using R⟩);case measure=>have e1:=l.o;have e2:=((a.o.drewN nq).set1 (q+1) ((q:Int)+1) Om).pos;rw[e1,e2];omega);(case' neg=>have W:((q:Int)==(s.size:Int))=xA:=So);all_goals have i:=Hr M.o (by first|exact λ_=>hc|exact λh=>absurd h hlt);have j:=Hu (s:=s) A V;go_wp2;go_quiet ((first|(go_at_call 20;exact Calls.quiet_of (cL (a.o.drewN _)))|(go_at_call 37;exact Calls.quiet_of_same oT)));obtain⟨C,rfl⟩:∃n,n=nq:=⟨_,rfl⟩;go_wp2;go_quiet (fail);obtain⟨HR1,HO1,HX1⟩:=cB (a.o.drewN (C+nq)) (B.o.drewN (C+nq)) (K.o.drewN (C+nq));obtain⟨u,D⟩:∃u,u=s.extract p q:=⟨_,rfl⟩;rw[<-D]at i j|-;(have O:u.size<=1200:=by rw[D];simp;omega);obtain⟨m,c⟩:=aN j i;clear D j i;cases hn:Px.numB u.data.toList;(·by_cases f:24<u.size;(·(have HT:Hid (Py.word (L s p)=.inl (4,s.size-p)):=by show _=_;rw[c.o];unfold Py.wordOf;rw[hn,if_neg Sm,if_pos (by simpa using f),m.o]);go_wp2_with (first|(go_at_call 59;refine(qQ Om).mo ?_;rintro e w' ⟨rfl,rfl⟩)|(go_at_call 31;refine(gU).mo ?_;rintro e w' ⟨N,rfl,hN,hN2,hbl⟩;refine hO ?_));exact WE);(have HT:Hid (Py.word (L s p)=Py.closed (.sym u.data.toList 0) (L s q)):=by show _=_;rw[c.o];unfold Py.wordOf;rw[hn,if_neg Sm,if_neg (by simpa using f)]);go_wp2_with (first|(go_at_call 59;refine(qQ Om).mo ?_;rintro e w' ⟨rfl,rfl⟩)|(go_at_call 52;refine iF Uf λo hbl=>?_;refine hO ?_));replace HR1:=hZ (HR1.o.below hbl So);replace HO1:=hZ (Only.of HO1.o hbl);replace HX1:=hZ (HX1.o.below hbl So);(have r:w.heap.size+1<=o.heap.size:=by have:=hbl.size;simp at this;omega);clear hbl;refine hZ ?_;exact WC);rcases Sr _ hn with⟨v,hv⟩|hv;(·(have HT:Hid (Py.word (L s p)=Py.closed (.num v) (L s q)):=by show _=_;rw[c.o];unfold Py.wordOf;rw[hn,if_pos rfl,hv]);obtain⟨HVB,E⟩:=aN (Lib.parseIntB_bounds hv) hv;clear hv;go_wp2_with (first|(go_at_call 59;refine(qQ Om).mo ?_;rintro e w' ⟨rfl,rfl⟩)|(go_at_call 60;refine iF (Ss Om E.o) λo hbl=>?_;refine hO ?_));replace HR1:=hZ (HR1.o.below hbl So);replace HO1:=hZ (Only.of HO1.o hbl);replace HX1:=hZ (HX1.o.below hbl So);(have r:w.heap.size+1<=o.heap.size:=by have:=hbl.size;simp at this;omega);clear hbl;refine hZ ?_;go_wp2_with (go_at_call 61;refine iF Ug λw2 hbl=>?_;refine hO ?_);replace HR1:=hZ (HR1.o.below hbl Om);replace HO1:=hZ (Only.of HO1.o hbl);replace HX1:=hZ (HX1.o.below hbl Om);(have X:w.heap.size+1<=w2.heap.size:=by have:=hbl.size;omega);clear hbl;refine hZ ?_;exact WC);(have HT:Hid (Py.word (L s p)=.inl (4,s.size-p)):=by show _=_;rw[c.o];unfold Py.wordOf;rw[hn,if_pos rfl,hv,m.o]);obtain⟨Y,Z,g⟩:=(Q.o.only B.o z Om);obtain⟨E,t⟩:=aN hv g;clear hv g;go_wp2_with (first|(go_at_call 59;refine(qQ Om).mo ?_;rintro e w' ⟨rfl,rfl⟩)|(go_at_call 60;refine(Tryz.strconv_ParseInt_10_at64_range_var u Om E.o Y Z _ (by exact t.o)).mo ?_;rintro e o ⟨N1,rfl,F,x,hbl⟩;refine hO ?_));clear F x;replace HR1:=hZ (HR1.o.below hbl So);replace HO1:=hZ (Only.of HO1.o hbl);replace HX1:=hZ (HX1.o.below hbl So);(have r:w.heap.size+1<=o.heap.size:=by have:=hbl.size;simp at this;omega);clear hbl;refine hZ ?_;go_wp2_with (go_at_call 31;refine(gU).mo ?_;rintro e w' ⟨N,rfl,hN,hN2,hbl⟩;refine hO ?_);exact WE
end Rd
end
section
namespace Rd
open Go.RowKit
def ResN(b:Nat)(s:BA)(d:Nat)(r:Py.R)(w:Wd)(e:En)(w':Wd):Prop:=
 Only b w w'/\
 match r with
 | .inl (c,k)=>∃N,e=Rt (Tu #[El.nil.v,Pz N])/\w.heap.size<=N/\w'.heap[N]? =sT (Cl #[Ii (c:Int),Ii ((s.size-k:Nat):Int)] 48)/\∃p',Rd b s p' d w'
 | .inr (ts,r)=>∃(x:El) (t:Dt),ts=[t]/\e=Rt (Tu #[x.v,.pointer sV])/\Rep w.heap.size NoB w' (33-d) x t/\Rd b s (s.size-r.length) d w'
theorem QP(hF:r=33\/r=34)(b:Nat)(s:BA)(p d:Nat)(w:Wd)(h:Rd b s p d w)(t:p<s.size)(u:s.size<=1200)(l:d=30):Cp 32 #[Pz b,Hb r #[Pz b] #[]] w λe w'=>Res b s d (.inl (4,s.size-p)) w e w':=by rcases hF with rfl|rfl;all_goals have x:=h.lt;have y:=h.c1;have z:=h.c2;have m:=hZ h;have n:((d:Int)==30)=xA:=So;clear h l;delta Cp;go_in;go_wp2_with (go_at_call 31;refine(gU).mo ?_;rintro e w' ⟨N,rfl,k,c,a⟩;refine hO ?_);have f:Only b w w':=Only.of ((Only.refl b w).alloc _) a;have g:=hZ ((m.o.alloc _).below a (by first|omega|(simp;done)|(simp;omega)));have o:Box w.heap.size w':=(Box.new w _ _ _ _ _ _).below a (by first|omega|(simp;done)|(simp;omega));(have q:w.heap.size+1<=N:=by first|omega|(simp at k;omega));obtain⟨⟨A,B⟩,⟨C,D⟩,⟨E,F⟩,⟨G,H⟩,⟨I,J⟩,⟨K,L⟩,M⟩:=o;obtain⟨i,j⟩:=aN c f;clear k c a f;refine hZ ?_;go_wp2;refine bodyPost_ret (v:=Tu #[El.nil.v,Pz N]) (by simp[results,results32,go_sem, *]) rfl ?_;exact Res.err j.o (eR _) Om Om i.o rfl Om g.o Om _ _ _ _ _ _
theorem QO(hF:r=33\/r=34)(b:Nat)(s:BA)(p d:Nat)(f:Py.R)(w:Wd)(h:Rd b s p d w)(hp:p<s.size)(hs:s.size<=1200)(H:d<30)(I:GV w)(q:6<=b)(J:∀w,Rd b s (p+1) (d+1) w->GV w->Cp r #[Pz b] w λe w'=>ResN b s (d+1) f w e w'):Cp 32 #[Pz b,Hb r #[Pz b] #[]] w λe w'=>Res b s d f w e w':=by rcases hF with rfl|rfl;all_goals have K:=h.lt;have h1:=h.c1;have h2:=h.c2;have hf:=h.fz 1;have Q:=h.fz 2;obtain⟨L,M,O⟩:=cB h I J;clear h I J;have S:((d:Int)==30)=xN:=So;rcases f with⟨c,k⟩|⟨ts,rr⟩;(·delta Cp;go_in;go_wp2_with ((first|go_at_call 33|go_at_call 34);refine(O.o _ (by exact((L.o.set1 (p+1) _ Om).set2 (d+1) _ Om).alloc _) (by exact(M.o.only ((((Only.refl b w).set _ _).set _ _).alloc _) q Om))).mo ?_;rintro e m ⟨i,N,rfl,u,P,p',j⟩;refine hO ?_);(have B:w.heap.size+1<=m.heap.size:=by have:=i.size;simp at this;omega);have C:b<m.heap.size:=Om;have D:w.heap.size<m.heap.size:=Om;have E:¬b=w.heap.size:=Om;have y:¬w.heap.size=b:=Om;have n:=hZ (((((Only.refl b w).set _ _).set _ _).alloc _).t i);have T:=j.c2;have gf:=j.fz 2;have o:=hZ j;obtain⟨⟨U,V⟩,⟨W,X⟩,⟨Y,Z⟩,⟨y3,k3⟩,⟨y4,k4⟩,⟨y5,k5⟩,kf⟩:=(Box.new2 w _ _ _ _ _ _ _ _ _ _).kept i Ia Sm;(have a0:w.heap.size+1<=N:=by simpa using u);have HN:=hZ P;clear i P u j;refine hZ ?_;go_wp2;refine bodyPost_ret (v:=Tu #[El.nil.v,Pz N]) (by simp[results,results32,go_sem, *]) rfl ?_;exact(Res.err (n.o.set 2 _) (eR _) Om Om (by rw[Below.heap_setCell _ _ _ _ (by show N≠b;omega)];exact HN.o) rfl rfl (o.o.set2 d _ rfl) K _ _ _ _ _ _).alloc _);delta Cp;go_in;go_wp2_with ((first|go_at_call 33|go_at_call 34);refine(O.o _ (by exact((L.o.set1 (p+1) _ Om).set2 (d+1) _ Om).alloc _) (by exact(M.o.only ((((Only.refl b w).set _ _).set _ _).alloc _) q Om))).mo ?_;rintro e m ⟨i,x,t,rfl,rfl,a,l⟩;refine hO ?_);(have B:w.heap.size+1<=m.heap.size:=by have:=i.size;simp at this;omega);have C:b<m.heap.size:=Om;have D:w.heap.size<m.heap.size:=Om;have E:¬b=w.heap.size:=Om;have y:¬w.heap.size=b:=Om;have n:=hZ (((((Only.refl b w).set _ _).set _ _).alloc _).t i);have T:=l.c2;have gf:=l.fz 2;have o:=hZ l;obtain⟨⟨U,V⟩,⟨W,X⟩,⟨Y,Z⟩,⟨y3,k3⟩,⟨y4,k4⟩,⟨y5,k5⟩,kf⟩:=(Box.new2 w _ _ _ _ _ _ _ _ _ _).kept i Ia Sm;have HRep:=hZ a;clear i a l;obtain⟨xk,xn,F,G,xm,xa,z,A⟩:=x;refine hZ ?_;go_wp2;refine bodyPost_ret (v:=Tu #[El.v ⟨xk,xn,F,G,xm,xa,z,A⟩,.pointer sV]) (by simp[results,results32,go_sem, *]) rfl ?_;have a:=HRep.o;rw[show 33-(d+1)=32-d from by omega]at a;exact(Res.ok (n.o.set 2 _) (eR _) Sm K (Rep.kept ((Only.refl b m).set 2 _) (λg h=>by cases h;left;simp;omega) a) (o.o.set2 d _ rfl) rfl _ _ _ _ _ _).alloc _
abbrev Uy:=@QP 33 (.inl rfl)
abbrev Uw:=@QP 34 (.inr rfl)
abbrev Ux:=@QO 33 (.inl rfl)
abbrev Uv:=@QO 34 (.inr rfl)
end Rd
end
section
namespace Rd
open Go.RowKit
theorem Ue:Cp 52 #[Sg U] w λe w'=>e=Rt (Ag #[Ii 3,Ii 0,.bool xN,Sg U,Ii 0,Sl sV 0 0])/\w.alloc (Cl #[Ii 3,Ii 0,.bool xN,Sg U,Ii 0,Sl sV 0 0] 56)=w':=by delta Cp;go_in;go_wp2;exact bodyPost_ret (v:=El.v ⟨3,0,xN,U,0,sV,0,0⟩) (by simp[results,results52,go_sem]) rfl ⟨rfl,rfl⟩
theorem Ah{a:OA}{len cap:Nat}:Cp 51 #[Sl a len cap] w λe w'=>e=Rt (Ag #[Ii 4,Ii 0,.bool xN,Sg ⟨#[]⟩,Ii 0,Sl a len cap])/\w.alloc (Cl #[Ii 4,Ii 0,.bool xN,Sg ⟨#[]⟩,Ii 0,Sl a len cap] 56)=w':=by delta Cp;go_in;go_wp2;exact bodyPost_ret (v:=El.v ⟨4,0,xN,⟨#[]⟩,0,a,len,cap⟩) (by simp[results,results51,go_sem]) rfl ⟨rfl,rfl⟩
def zL(r:Py.R):Py.R:=match r with
 | .inl e=>.inl e
 | .inr (xs,rr)=>.inr ([.list (.sym Px.quoteT 0::xs)],rr)
theorem OX{R:Obj}(W:Wd)(A B C:Obj)(a:n=W.heap.size):((((W.alloc A).alloc B).alloc R).alloc C).heap[n+1+1]? =sT R:=by subst a;rw[eH _ _ _ Sm];have:=eN ((W.alloc A).alloc B) R;rwa [show((W.alloc A).alloc B).heap.size=W.heap.size+1+1 from by simp]at this
theorem ResN.quote{d G:Nat}{x:El}{t:Dt}(l:Only b w a0)(o:w.heap.size<=G)(j:a0.heap[G]? =sT (Cl #[Ii 3,Ii 0,.bool xN,Sg ⟨#[113,117,111,116,101]⟩,Ii 0,Sl sV 0 0,Ii x.k,Ii x.n,.bool x.tr,Sg x.tx,Ii x.m,Sl x.a x.len x.cap] 56))(e:Rep w.heap.size NoB a0 (32-d) x t)(q:d<=30)(p:Rd b s (s.size-g0.length) d a0):ResN b s d (.inr ([.list (.sym Px.quoteT 0::[t])],g0)) w (Rt (Tu #[El.v ⟨4,0,xN,⟨#[]⟩,0,sT (Aa G),2,2⟩,.pointer sV])) a0:=by refine⟨l,⟨4,0,xN,⟨#[]⟩,0,sT (Aa G),2,2⟩,_,rfl,rfl,?_,p⟩;rw[show 33-d=(32-d)+1 from by omega];refine .inr (.inr (.inr (.inr ⟨rfl,[⟨3,0,xN,⟨#[113,117,111,116,101]⟩,0,sV,0,0⟩,x],[.sym Px.quoteT 0,t],rfl,rfl,⟨rfl,⟨rfl,.inr ⟨G,2,_,rfl,o,j,eR _,by decide,rfl,rfl⟩⟩,λg h=>by cases h⟩,?_⟩)));intro i y u c f;rw[show 32-d=(31-d)+1 from by omega];match i,c,f with|0,c,f=>simp at c f;subst c;subst f;exact .inr (.inr (.inr (.inl ⟨rfl,rfl,rfl⟩)))|1,c,f=>simp at c f;subst c;subst f;rw[show 32-d=(31-d)+1 from by omega]at e;exact e|i+2,c,f=>simp at c
theorem Only.drew(h:Only b w w'):Only b w w'.drew:=⟨h.os,h.tape,h.output,h.size,h.block⟩
theorem OY(W:Wd)(A B R C:Obj):W.grownBy ((((W.alloc A).alloc B).alloc R).alloc C).drew sV:=⟨rfl,rfl,rfl,by simp;omega,λk a _=>by show((((W.alloc A).alloc B).alloc R).alloc C).heap[k]? =_;rw[eH _ _ _ So,eH _ _ _ So,eH _ _ _ So,eH _ _ _ a]⟩
theorem Qz{d:Nat}{x:El}{t:Dt}(o:Only b w a0)(p:w.heap.size<=g)(j:g<lo)(c:w.heap.size<=lo)(F:b<w.heap.size)(q:d<=30)(f:Rep lo NoB a0 (32-d) x t)(r:Rd b s (s.size-g0.length) d a0)(v0 v1 v2 v3 v4 v5:Vu)(A B C:Obj):ResN b s d (.inr ([.list (.sym Px.quoteT 0::[t])],g0)) w (Rt (Tu #[El.v ⟨4,0,xN,⟨#[]⟩,0,sT (Aa (a0.heap.size+1+1)),2,2⟩,.pointer sV])) (((((jC a0 g v0 v1 v2 v3 v4 v5).alloc A).alloc B).alloc (Cl #[Ii 3,Ii 0,.bool xN,Sg ⟨#[113,117,111,116,101]⟩,Ii 0,Sl sV 0 0,Ii x.k,Ii x.n,.bool x.tr,Sg x.tx,Ii x.m,Sl x.a x.len x.cap] 56)).alloc C).drew:=by have l:=lV a0 g v0 v1 v2 v3 v4 v5;have u:a0.heap.size=(jC a0 g v0 v1 v2 v3 v4 v5).heap.size:=Sm;have y:Only b w (jC a0 g v0 v1 v2 v3 v4 v5):=o.new l p;have z:Rep lo NoB (jC a0 g v0 v1 v2 v3 v4 v5) (32-d) x t:=Rep.kept l (λG h=>by cases h;exact .inl j) f;have D:Rd b s (s.size-g0.length) d (jC a0 g v0 v1 v2 v3 v4 v5):=r.kept l Ia;have E:=o.size;generalize jC a0 g v0 v1 v2 v3 v4 v5=W at*;have i:=OY W A B (Cl #[Ii 3,Ii 0,.bool xN,Sg ⟨#[113,117,111,116,101]⟩,Ii 0,Sl sV 0 0,Ii x.k,Ii x.n,.bool x.tr,Sg x.tx,Ii x.m,Sl x.a x.len x.cap] 56) C;exact ResN.quote (((((y.alloc _).alloc _).alloc _).alloc _).drew) Om (OX W A B C u) (Rep.turn c (λg h=>by cases h) (Rep.kept i (λg h=>by cases h) z)) q (D.kept i Sm)
theorem Qy{d:Nat}{C:Py.R}(h:Rd b s p d w)(m:d<=30)(H:GV w)(n:6<=b)(I:∀w,Rd b s p d w->GV w->Cp 21 #[Pz b] w λe w'=>Res b s d C w e w'):Cp 34 #[Pz b] w λe w'=>ResN b s d (zL C) w e w':=by
 have J:=h.lt;obtain⟨K,L,M⟩:=cB h H I;clear h H I;rcases C with⟨c,k⟩|⟨ts,W⟩;·show Cp 34 #[Pz b] w λe w'=>ResN b s d (.inl (c,k)) w e w';delta Cp;go_in;go_wp2_with (go_at_call 21;refine(M.o _ (by exact K.o.alloc _) (by exact(L.o.only ((Only.refl b w).alloc _) n Om))).mo ?_;rintro e a ⟨f,N,rfl,o,O,p',q⟩;refine hO ?_);(have D:w.heap.size+1<=a.heap.size:=by have:=f.size;simp at this;omega);have E:w.heap.size<a.heap.size:=Om;obtain⟨j,l⟩:=aN (((Only.refl b w).alloc _).t f) q;(have X:w.heap.size+1<=N:=by simpa using o);have Y:=hZ O;obtain⟨⟨Z,k0⟩,⟨y1,k1⟩,⟨y2,k2⟩,⟨y3,k3⟩,⟨y4,k4⟩,⟨y5,k5⟩,P⟩:=(Box.new w _ _ _ _ _ _).kept f Ia Sm;clear f O o q;refine hZ ?_;go_wp2;refine bodyPost_ret (v:=Tu #[El.nil.v,Pz N]) (by simp[results,results34,go_sem, *]) rfl ?_;exact(Res.err j.o (eR _) Om Om Y.o rfl rfl l.o J _ _ _ _ _ _).alloc _
 show Cp 34 #[Pz b] w λe w'=>ResN b s d (.inr ([.list (.sym Px.quoteT 0::ts)],W)) w e w';delta Cp;go_in;go_wp2_with (go_at_call 21;refine(M.o _ (by exact K.o.alloc _) (by exact(L.o.only ((Only.refl b w).alloc _) n Om))).mo ?_;rintro e a ⟨f,x,t,rfl,rfl,g,r⟩;refine hO ?_);have D:w.heap.size+1<=a.heap.size:=by have:=f.size;simp at this;omega
 have E:w.heap.size<a.heap.size:=Om;obtain⟨j,l,HRep⟩:=cB (((Only.refl b w).alloc _).t f) r g;obtain⟨⟨Z,k0⟩,⟨y1,k1⟩,⟨y2,k2⟩,⟨y3,k3⟩,⟨y4,k4⟩,⟨y5,k5⟩,P⟩:=(Box.new w _ _ _ _ _ _).kept f Ia Sm;clear f g r;obtain⟨xk,xn,F,G,xm,xa,u,y⟩:=x;refine hZ ?_;go_wp2;have Q:w.heap.size<a.heap.size+1:=Om;have S:w.heap.size<a.heap.size+1+1:=Om;have T:w.heap.size<a.heap.size+2:=Om;have U:w.heap.size<a.heap.size+1+1+1:=Om;have V:w.heap.size<a.heap.size+3:=Om;have kc:∀z o2 A B:Obj,∀i:Nat,((((a.alloc z).alloc o2).alloc A).alloc B).cell? (Ab w.heap.size i)=a.cell? (Ab w.heap.size i):=by intro z o2 A B i;exact(((((Below.refl (w.heap.size+1) a).alloc Om _).alloc So _).alloc So _).alloc So _).cell (p:=Ab w.heap.size i) Sm
 have kz:∀z o2 A B:Obj,∀i:Nat,((((a.alloc z).alloc o2).alloc A).alloc B).frozen? (Ab w.heap.size i)=xN:=by intro z o2 A B i;rw[(((((Below.refl (w.heap.size+1) a).alloc Om _).alloc So _).alloc So _).alloc So _).frozen (p:=Ab w.heap.size i) Sm];exact P i
 go_region_with (first|(go_at_call 52;refine(Ue).mo ?_;rintro e w2 ⟨rfl,rfl⟩)|(go_at_call 51;refine(Ah).mo ?_;rintro e w2 ⟨rfl,rfl⟩));all_goals go_wp2
 all_goals refine bodyPost_ret (v:=Tu #[El.v ⟨4,0,xN,⟨#[]⟩,0,sT (Aa (a.heap.size+1+1)),2,2⟩,.pointer sV]) (by simp[results,results34,go_sem, *]) rfl ?_;exact Qz (x:=⟨xk,xn,F,G,xm,xa,u,y⟩) j.o (eR _) Sm Sm J m HRep.o l.o _ _ _ _ _ _ _ _ _
end Rd
end
section
namespace Rd
open Go.RowKit
theorem xE(q:Nat)(rr:List UInt8)(h:rr<:+L s q):L s (s.size-rr.length)=rr:=by have a:rr<:+s.data.toList:=h.t (by unfold L;exact List.drop_suffix _ _);unfold L;have:=List.suffix_iff_eq_drop.1 a;rw[show s.size=s.data.toList.length from by simp];exact this.symm
def Bl(v:Vu):Nat->Prop:=λk=>v.ownBlock=sT k
structure Mem (lo m:Nat) (own:Nat->Prop) (w:Wd) (es:List El) (ts:List Dt):Prop where
 len:es.length=ts.length
 all:∀(i:Nat) (x:El) (u:Dt),es[i]? =sT x->ts[i]? =sT u->Rep lo own w m x u
theorem Mem.nil(lo m:Nat)(own:Nat->Prop)(w:Wd):Mem lo m own w [] []:=⟨rfl,λi x u h=>by simp at h⟩
theorem Mem.kept{own:Nat->Prop}{row:Option Nat}{es:List El}(h:Mem lo m own w es ts)(a:w.grownBy w' row)(b:∀g,row=sT g->g<lo\/own g):Mem lo m own w' es ts:=⟨h.len,λi x u c d=>Rep.kept a b (h.all i x u c d)⟩
theorem Mem.turn{own a:Nat->Prop}{es:List El}(h:Mem lo m own w es ts)(b:∀g,a g->own g\/w.heap.size<=g\/g<lo):Mem lo m a w es ts:=⟨h.len,λi x u c d=>Rep.turn (eR _) b (h.all i x u c d)⟩
theorem Mem.snoc{own:Nat->Prop}{es:List El}(h:Mem lo m own w es ts){x:El}{t:Dt}(c:Rep lo own w m x t):Mem lo m own w (es++[x]) (ts++[t]):=by refine⟨by simp[h.len],λi y u a b=>?_⟩;rcases Nat.lt_trichotomy i es.length with hi|hi|hi;rw[eA hi]at a;rw[eA (by rw[<-h.len];exact hi)]at b;exact h.all i y u a b;subst hi;rw[eB (eR _)]at a;rw[h.len,eB (eR _)]at b;simp at a b;subst a;subst b;exact c;rw[List.getElem?_eq_none So]at a;cases a
def Gw(F:Nat):Prop:=∀(b:Nat) (s:BA) (p d:Nat) (w:Wd),Rd b s p d w->p<=s.size->s.size<=1200->d<=30->GV w->6<=b->2*(s.size-p)+1<=F->
 Cp 21 #[Pz b] w λe w'=>Res b s d (Py.rd F xN d (L s p)) w e w'
def oS(r:Py.R):Py.R:=match r with
 | .inl e=>.inl e
 | .inr (xs,rr)=>.inr ([.list xs],rr)
theorem info134:(prog.info? 56).map (λi=>(i.zero,i.size,i.bytes))=sT (sT (Ag #[Ii 0,Ii 0,.bool xN,Sg ⟨#[]⟩,Ii 0,Sl sV 0 0]),6,72):=Kr
theorem Tb{v:Vu}(h:w.ownsRow lo 56 6 v n xs):∃a cap,v=Sl a n cap:=by rcases h.2 with⟨b,c⟩|⟨g,cap,d,b,_⟩;subst c;exact⟨_,_,b⟩;exact⟨_,_,b⟩
theorem ResN.list{d:Nat}{a:OA}{cap:Nat}{es:List El}(j:Only b w W)(e:w.heap.size<=lo)(f:W.ownsRow lo 56 6 (Sl a es.length cap) es.length (es.flatMap El.cells))(c:Mem lo (32-d) (Bl (Value.slice a es.length cap)) W es ts)(o:d<=30)(k:Rd b s p d W)(l:p=s.size-g0.length):ResN b s d (.inr ([.list ts],g0)) w (Rt (Tu #[El.v ⟨4,0,xN,⟨#[]⟩,0,a,es.length,cap⟩,.pointer sV])) W:=by subst l;refine⟨j,⟨4,0,xN,⟨#[]⟩,0,a,es.length,cap⟩,_,rfl,rfl,?_,k⟩;rw[show 33-d=(32-d)+1 from by omega];exact .inr (.inr (.inr (.inr ⟨rfl,es,ts,rfl,c.len,⟨rfl,tL f e,λg h=>by cases h⟩,λi x u m n=>Rep.turn e (λg h=>by cases h) (c.all i x u m n)⟩)))
theorem ResN.alloc{d:Nat}{a:Py.R}(h:ResN b s d a w e w')(o:Obj):ResN b s d a w e (w'.alloc o):=by rcases a with⟨c,k⟩|⟨ts,f⟩;exact SN;exact TA
theorem Xv{d:Nat}{a:OA}{cap:Nat}{es:List El}(j:Only b w W)(o:w.heap.size=g)(q:b<w.heap.size)(f:W.ownsRow (g+1) 56 6 (Sl a es.length cap) es.length (es.flatMap El.cells))(i:Mem (g+1) (32-d) (Bl (Value.slice a es.length cap)) W es ts)(l:d<=30)(m:Rd b s p d W)(n:p=s.size-g0.length):ResN b s d (.inr ([.list ts],g0)) w (Rt (Tu #[El.v ⟨4,0,xN,⟨#[]⟩,0,a,es.length,cap⟩,.pointer sV])) (jC W g v0 v1 v2 v3 v4 v5):=by have c:=lV W g v0 v1 v2 v3 v4 v5;refine ResN.list (lo:=g+1) (j.new c Om) Om (f.kept c ?_) (i.kept c (λr h=>by cases h;left;omega)) l (m.kept c Ia) n;cases hv:(Value.slice a es.length cap).ownBlock with|none=>exact .inl rfl|some k=>right;intro e;cases e;have:=(f.lt _ hv).1;omega
def PV(F b:Nat)(s:BA)(p d:Nat)(w:Wd)(mv:Vu)(wr:Wd):Prop:=
 ∃(q f:Nat) (es:List El) (ts:List Dt),p<=q/\q<=s.size/\Px.skip xN (L s q)=L s q/\Rd b s q d wr/\Only b w wr/\Box w.heap.size wr/\w.heap.size<wr.heap.size/\
  wr.ownsRow (w.heap.size+1) 56 6 mv es.length (es.flatMap El.cells)/\Mem (w.heap.size+1) (32-d) (Bl mv) wr es ts/\es.length<=q/\f<=F/\2*(s.size-q)+2<=f/\
  Py.rd F xA d (L s p)=Py.pre ts (Py.rd f xA d (L s q))
theorem tN{w w':Wd}{lo b:Nat}{v:Vu}{n:Nat}{xs:List Vu}(h:w.ownsRow lo 56 6 v n xs)(a:Only b w w')(c:b<lo):w'.ownsRow lo 56 6 v n xs:=by refine h.kept a ?_;cases hv:v.ownBlock with|none=>exact .inl rfl|some k=>right;intro e;cases e;have:=(h.lt _ hv).1;omega
theorem Mem.only{own:Nat->Prop}{es:List El}(h:Mem lo m own w es ts)(a:Only b w w')(c:b<lo):Mem lo m own w' es ts:=h.kept a (λg e=>by cases e;left;exact c)
theorem Only.newO{row:Option Nat}(h:Only b w w')(a:w'.grownBy w2 row)(d:∀g,row=sT g->w.heap.size<=g):Only b w w2:=⟨a.os.t h.os,a.tape.t h.tape,a.output.t h.output,eT h.size a.size,λi c hne=>(a.block i (eW c h.size) (by intro e;have:=d i e.symm;omega)).t (h.block i c hne)⟩
theorem Mem.grow{v:Vu}{H:Nat}{es:List El}(h:Mem lo m (Bl v) w es ts)(e:w.grownBy w' v.ownBlock)(a:v.ownBlock=sT g\/g=H)(n:w.heap.size=H){sl:Vu}(b:sl.ownBlock=sT g){x:El}{t:Dt}{lo2:Nat}(f:Rep lo2 NoB w m x t)(c:lo<=lo2)(d:∀k,v.ownBlock=sT k->k<lo2):Mem lo m (Bl sl) w' (es++[x]) (ts++[t]):=by have i:Mem lo m (λk=>Bl v k\/k=g) w es ts:=h.turn (λk hk=>by rcases hk with hk|hk;exact .inl hk;subst hk;rcases a with ha|ha;exact .inl ha;right;left;omega);have j:Rep lo (λk=>Bl v k\/k=g) w m x t:=Rep.turn c (λk hk=>by right;rcases hk with hk|hk;right;exact d k hk;subst hk;rcases a with ha|ha;right;exact d _ ha;left;omega) f;have l:=(i.snoc j).kept e (λk hk=>.inr (.inl hk));exact l.turn (λk hk=>.inl (.inr (by unfold Bl at hk;rw[b]at hk;cases hk;rfl)))
theorem list_any(F b:Nat)(s:BA)(p d:Nat)(w:Wd)(h:Rd b s p d w)(hp:p<=s.size)(hs:s.size<=1200)(E:d<=30)(hG:GV w)(P:6<=b)(hF:2*(s.size-p)+2<=F)(hD:∀F',F'<F->Gw F'):Cp 33 #[Pz b] w λe w'=>ResN b s d (oS (Py.rd F xA d (L s p))) w e w':=by
 have hb:=h.lt;obtain⟨HR,HG,HD⟩:=cB h hG hD;clear h hG hD;delta Cp;go_in;go_wp2_with (go_at_call 19;refine(lR (HR.o.alloc _) hp hs).mo ?_;rintro e w1 ⟨rfl,q0,c0,e7,a0,G,Q⟩;refine hO ?_);obtain⟨e8,e9⟩:=aN G (((Only.refl b w).alloc _).t Q);have f0:w.heap.size<w1.heap.size:=by have:=Q.size;simp at this;omega
 obtain⟨f1,a1⟩:=aN ((Box.new w _ _ _ _ _ _).kept Q Ia Sm) a0;clear G Q a0;refine hZ ?_;go_wp2;go_loopw [4] (PV F b s p d w) (λ_ wr=>s.size-eD b wr);case atStart=>exact⟨q0,F,[],[],c0,e7,by rw[<-a1.o,Px.skip_idem],e8.o,e9.o,f1.o,f0,VG _ _ _ _,Mem.nil _ _ _ _,by simp,eR _,by omega,by rw[<-a1.o,Py.rd_skip,Py.pre_nil]⟩
 case round=>obtain⟨q,f,es,ts,g6,hq,c7,hR,H,hX,hz,a2,a3,g7,g8,g9,c8⟩:=hrel;obtain⟨f,rfl⟩:∃f',f=f'+1:=⟨f-1,by omega⟩;obtain⟨i0,hi,c9,d0,d1⟩:=info_parts info134;obtain⟨o,HO,HX,B,I,b0,d2⟩:=gV hR H hX a2 a3 c8 c7;have d3:Hid (eD b wr=q):=hR.pos;clear hR H hX a3 c8 c7 a2;by_cases R:∃y:q<s.size,((s[q].toNat:Int)==41)=xA;(·obtain⟨y,hc⟩:=R;have h0:=o.o.c1;have h3:=o.o.fz 1;have h4:=o.o.lt;obtain⟨a,cap,rfl⟩:=Tb B.o;(have HT:Hid (oS (Py.rd F xA d (L s p))=.inr ([.list ts],L s (q+1))):=by show _=_;rw[b0.o,dD s q y,Py.rd_true_close f d _ _ (by have:=beq_iff_eq.1 hc;omega)];simp[Py.pre,oS]);obtain⟨⟨y0,k0⟩,⟨y1,k1⟩,⟨y2,k2⟩,⟨y3,k3⟩,⟨y4,k4⟩,⟨y5,k5⟩,kf⟩:=HX.o;have h5:¬b=w.heap.size:=Om;have g4:¬w.heap.size=b:=Om;go_wp2_with (first|(go_at_call 50;refine iC (jR d _ _ o.o y) λn1=>?_)|(go_at_call 51;refine(Ah).mo ?_;rintro e w2 ⟨rfl,rfl⟩));refine bodyPost_ret (v:=Tu #[El.v ⟨4,0,xN,⟨#[]⟩,0,a,es.length,cap⟩,.pointer sV]) (by simp[results,results33,go_sem, *]) rfl ?_;rw[HT.o];have C:Only b wr ((wr.drewN n1).setCell (Ab b 1) (Value.int UZ (↑q+1))):=((Only.refl b wr).drewN _).set _ _;exact(Xv (HO.o.t C) rfl hb (tN B.o C Om) (I.o.only C Om) E ((o.o.drewN _).set1 (q+1) _ Om) (by rw[eS];omega)).alloc _);(have d4:∀c r,L s q=c::r->c.toNat≠41:=by intro c r e f2;(have y:q<s.size:=by rcases VH q s.size with h'|h';exact h';rw[kP s q h']at e;cases e);rw[dD s q y]at e;(have hc:s[q]=c:=by injection e);exact R ⟨y,by rw[hc,f2];rfl⟩);(have C:∀w0,Rd b s q d w0->Cp 50 #[Pz b,.int .u8 41] w0 λe w'=>e=Rt (.bool xN)/\∃n,w'=w0.drewN n:=by intro w0 G;by_cases y:q<s.size;(have hc:((s[q].toNat:Int)==41)=xN:=by cases hc:((s[q].toNat:Int)==41)with|false=>rfl|true=>exact absurd ⟨y,hc⟩ R);have:=jR d 41 w0 G y;rw[hc]at this;exact this;exact yF s q d G Om);obtain⟨d5,d6,S⟩:=cB C d4 (HD.o f Om b s q d);clear C d4 R;cases hr:Py.rd f xN d (L s q)with|inl ck=>obtain⟨c,k⟩:=ck;(have HT:Hid (oS (Py.rd F xA d (L s p))=.inl (c,k)):=by show _=_;rw[b0.o,Py.rd_true_bad f d _ d2.o d6.o (c,k) hr Om];rfl);(have T:Hid (∀w0,Rd b s q d w0->GV w0->Cp 21 #[Pz b] w0 λe w'=>Res b s d (.inl (c,k)) w0 e w'):=by intro w0 h1 h2;have:=S.o w0 h1 hq hs E h2 P Om;rw[hr]at this;exact this);clear hr S;go_wp2_with (first|(go_at_call 50;refine iC (d5.o _ o.o) λn1=>?_)|(go_at_call 21;refine(T.o _ (by exact o.o.drewN _) (by exact(HG.o.only (HO.o.drewN _) P Om))).mo ?_;rintro e w1 ⟨H,N,rfl,d7,hN,p',d8⟩;refine hO ?_));(have f3:wr.heap.size<=w1.heap.size:=by have:=H.size;simpa using this);have d9:w.heap.size<w1.heap.size:=Om;obtain⟨U,V⟩:=aN ((HO.o.drewN _).t H) d8;(have h6:w.heap.size+1<=N:=by simp at d7;omega);have HN:=hZ hN;obtain⟨⟨y0,k0⟩,⟨y1,k1⟩,⟨y2,k2⟩,⟨y3,k3⟩,⟨y4,k4⟩,⟨y5,k5⟩,kf⟩:=(HX.o.drewN _).kept H Ia (by simpa using hz);clear H hN d7 d8;refine hZ ?_;go_wp2;refine bodyPost_ret (v:=Tu #[El.nil.v,Pz N]) (by simp[results,results33,go_sem, *]) rfl ?_;rw[HT.o];exact(Res.err U.o (eR _) Om Om HN.o rfl rfl V.o hb _ _ _ _ _ _).alloc _|inr xr=>obtain⟨xs,rr⟩:=xr;obtain⟨a4,e0,a5⟩:=Py.rd_short f xN d (L s q) xs rr hr;obtain⟨t,rfl⟩:=a5 rfl;have HT:=hZ (Py.rd_true_more f d _ d2.o d6.o _ _ hr);(have T:Hid (∀w0,Rd b s q d w0->GV w0->Cp 21 #[Pz b] w0 λe w'=>Res b s d (.inr ([t],rr)) w0 e w'):=by intro w0 h1 h2;have:=S.o w0 h1 hq hs E h2 P Om;rw[hr]at this;exact this);have e3:=xE q rr a4;have f4:=hZ e3;rw[eS]at e0;clear hr S a4 e3 a5;go_wp2_with (first|(go_at_call 50;refine iC (d5.o _ o.o) λn1=>?_)|(go_at_call 21;refine(T.o _ (by exact o.o.drewN _) (by exact(HG.o.only (HO.o.drewN _) P Om))).mo ?_;rintro e w1 ⟨H,x,t',ht,rfl,a6,b1⟩;refine hO ?_));obtain rfl:t'=t:=(List.cons.inj ht).1.symm;clear ht;(have f3:wr.heap.size<=w1.heap.size:=by have:=H.size;simpa using this);have d9:w.heap.size<w1.heap.size:=Om;have J:Only b wr w1:=((Only.refl b wr).drewN n1).t H;obtain⟨U,V,e4⟩:=cB (HO.o.t J) b1 (HX.o.kept J Ia hz);have K:=tN B.o J Om;obtain⟨M,HRep,m⟩:=cB (I.o.only J Om) a6 K;have HV:Hid (∀k,u4.ownBlock=sT k->k<wr.heap.size):=λk hk=>(B.o.lt k hk).2;have h7:b<w1.heap.size:=b1.lt;clear H J b1 a6 K B I T;obtain⟨W,X,z,A,Y,Z,j,l⟩:=x;refine hZ ?_;go_wp2_with (at_builtin;refine wpList_append_lies _ rfl _ _ 54 rfl (w.heap.size+1) 56 i0 (Ag #[Ii 0,Ii 0,.bool xN,Sg ⟨#[]⟩,Ii 0,Sl sV 0 0]) 6 72 underlying54 hi c9 d0 d1 rfl De _ _ _ rfl ((m.o.alloc _).alloc _) (Aa (w1.heap.size+1)) 1 1 [Ii W,Ii X,.bool z,Sg A,Ii Y,Sl Z j l] rfl rfl ?c1 ?c2 De ?c3 ?c4 ?c5 (w1.heap.size+1+1) ?c6 ?_);(case c1=>exact VI (cs:=#[Ii W,Ii X,.bool z,Sg A,Ii Y,Sl Z j l]) new2);(case c2=>intro u hu;simp at hu;rcases hu with rfl|rfl|rfl|rfl|rfl|rfl<;>rfl);(case c3=>unfold maxLen;omega);(case c4=>omega);(case c5=>simp;omega);(case c6=>simp);intro g cap w3 O i a7 e5;refine hO ?_;obtain⟨f5,f6,f7⟩:=cB (((U.o.alloc _).alloc _).newO i (λk h=>by have:=(m.o.lt k h).1;omega)) (((V.o.alloc _).alloc _).kept i (by intro e;have:=(m.o.lt b e.symm).1;omega)) (((e4.o.kept (UW _ _ sV) Sm d9).kept (UW _ _ sV) Sm So).kept i (by intro e;have:=(m.o.lt _ e.symm).1;omega) So);(have f8:w.heap.size<w3.heap.size:=by have:=i.size;simp at this;omega);have b2:=UW w1 (Obj.cells #[Value.int UZ W,Value.int UZ X,Value.bool z,Value.string A,Value.int UZ Y,Value.slice Z j l] 56) sV;have b3:=UW (w1.alloc (Obj.cells #[Value.int UZ W,Value.int UZ X,Value.bool z,Value.string A,Value.int UZ Y,Value.slice Z j l] 56)) (Obj.cells #[Value.int UZ W,Value.int UZ X,Value.bool z,Value.string A,Value.int UZ Y,Value.slice Z j l] 56) sV;obtain⟨b4,b5⟩:=aN (Mem.grow (sl:=Sl (sT (Aa g)) (es.length+1) cap) (x:=⟨W,X,z,A,Y,Z,j,l⟩) (lo2:=wr.heap.size) ((M.o.kept b2 (λg h=>by cases h)).kept b3 (λg h=>by cases h)) i a7 Sm rfl (Rep.kept b3 (λg h=>by cases h) (Rep.kept b2 (λg h=>by cases h) HRep.o)) Om HV.o) O;(have f9:Hid (VJ El.cells es++[Value.int UZ W,Value.int UZ X,Value.bool z,Value.string A,Value.int UZ Y,Value.slice Z j l]=VJ El.cells (es++[⟨W,X,z,A,Y,Z,j,l⟩])):=by show _=_;simp[El.cells]);clear O i a7 e5 b2 b3 m M e4 V U HRep HV;refine hZ ?_;go_wp2_with (go_at_call 19;refine(lR f6.o Om hs).mo ?_;rintro e w4 ⟨rfl,q2,g5,e6,a8,b6,D⟩;refine hO ?_);obtain⟨g0,g1,g2⟩:=cB (f5.o.t D) b6 (f7.o.kept D Ia f8);(have g3:w.heap.size<w4.heap.size:=by have:=D.size;omega);obtain⟨b7,b8,a9⟩:=cB (tN b5.o D Om) (b4.o.only D Om) a8;have b9:Hid (eD b w4=q2):=b6.pos;clear b6 D a8;refine hZ ?_;go_wp2;go_roundw;(case rel=>refine⟨q2,f,es++[⟨W,X,z,A,Y,Z,j,l⟩],ts++[t'],by omega,e6,by rw[<-a9.o,Px.skip_idem],g1.o,g0.o,g2.o,g3,?_,b8.o,by simp;omega,by omega,by omega,?_⟩;rw[<-f9.o];simpa using b7.o;rw[b0.o,HT.o,Py.pre_pre,<-a9.o,f4.o]);case measure=>have e1:=d3.o;have e2:=b9.o;rw[e1,e2];omega
end Rd
end
section
namespace Rd
open Go.RowKit
theorem Qv(f d:Nat)(s:BA)(p q:Nat)(a:Px.skip xN (L s p)=L s q)(h:s.size<=q):Py.rd (f+1) xN d (L s p)=.inl (3,0):=by rw[Py.rd,a,kP s q h]
theorem Qu(f d:Nat)(s:BA)(p q:Nat)(a:Px.skip xN (L s p)=L s q)(h:q<s.size)(b:s[q].toNat=40)(c:d≠30):Py.rd (f+1) xN d (L s p)=oS (Py.rd f xA (d+1) (L s (q+1))):=by rw[Py.rd,a,dD s q h];simp only;rw[if_pos b,if_neg c];rcases Py.rd f xA (d+1) (L s (q+1))with e|⟨xs,g⟩<;>rfl
theorem zJ(f d:Nat)(s:BA)(p q:Nat)(b:Px.skip xN (L s p)=L s q)(h:q<s.size)(hc:s[q].toNat=40\/s[q].toNat=39)(a:d=30):Py.rd (f+1) xN d (L s p)=.inl (4,s.size-q):=by
 rw[Py.rd,b,dD s q h];simp only;have e:(L s (q+1)).length+1=s.size-q:=by rw[eS];omega
 rcases hc with hc|hc;rw[if_pos hc,if_pos a,e];rw[if_neg Om,if_pos hc,if_pos a,e]
theorem Qt(f d:Nat)(s:BA)(p q:Nat)(a:Px.skip xN (L s p)=L s q)(h:q<s.size)(b:s[q].toNat=39)(c:d≠30):Py.rd (f+1) xN d (L s p)=zL (Py.rd f xN (d+1) (L s (q+1))):=by rw[Py.rd,a,dD s q h];simp only;rw[if_neg Om,if_pos b,if_neg c];rcases Py.rd f xN (d+1) (L s (q+1))with e|⟨xs,g⟩<;>rfl
theorem Qs(f d:Nat)(s:BA)(p q:Nat)(a:Px.skip xN (L s p)=L s q)(h:q<s.size)(b:s[q].toNat=34):Py.rd (f+1) xN d (L s p)=Py.str (L s (q+1)):=by rw[Py.rd,a,dD s q h];simp only;rw[if_neg Om,if_neg Om,if_pos b]
theorem Qr(f d:Nat)(s:BA)(p q:Nat)(a:Px.skip xN (L s p)=L s q)(h:q<s.size)(b:s[q].toNat=35):Py.rd (f+1) xN d (L s p)=Py.truth (L s (q+1)):=by rw[Py.rd,a,dD s q h];simp only;rw[if_neg Om,if_neg Om,if_neg Om,if_pos b]
theorem Qq(f d:Nat)(s:BA)(p q:Nat)(a:Px.skip xN (L s p)=L s q)(h:q<s.size)(b:s[q].toNat≠40)(c:s[q].toNat≠39)(e:s[q].toNat≠34)(g:s[q].toNat≠35)(i:Px.wordB s[q]=xA):Py.rd (f+1) xN d (L s p)=Py.word (L s q):=by rw[Py.rd,a,dD s q h];simp only;rw[if_neg b,if_neg c,if_neg e,if_neg g,if_pos i]
theorem Qw(f d:Nat)(s:BA)(p q:Nat)(a:Px.skip xN (L s p)=L s q)(h:q<s.size)(b:s[q].toNat≠40)(c:s[q].toNat≠39)(g:s[q].toNat≠34)(i:s[q].toNat≠35)(j:Px.wordB s[q]=xN):Py.rd (f+1) xN d (L s p)=.inl (2,s.size-q):=by
 rw[Py.rd,a,dD s q h];simp only;rw[if_neg b,if_neg c,if_neg g,if_neg i,if_neg (by simp[j])];have e:(L s (q+1)).length+1=s.size-q:=by rw[eS];omega
 rw[e]
structure At (b:Nat) (s:BA) (q d:Nat) (w w1:Wd):Prop where
 rd:Rd b s q d w1
 only:Only b w w1
 box:Box w.heap.size w1
 lt:w.heap.size<w1.heap.size
theorem xF(q:Nat)(b:p<=s.size)(c:q<=s.size)(h:L s p=L s q):p=q:=by have a:=congrArg List.length h;rw[eS,eS]at a;omega
def CC(b:Nat)(s:BA)(q d:Nat)(r:Py.R)(N:Nat)(args:Array Vu):Prop:=∀w,Rd b s q d w->GV w->Cp N args w λe w'=>Res b s d r w e w'
theorem mJ{d:Nat}{n:Py.R}(q:Nat)(h:Rd b s p d w)(S:p<=s.size)(T:s.size<=1200)(K:GV w)(A:6<=b)(M:Px.skip xN (L s p)=L s q)(U:q<s.size)(g:((s[q].toNat:Int)==40)=xA/\CC b s q d n 32 #[Pz b,Hb 33 #[Pz b] #[]]\/((s[q].toNat:Int)==40)=xN/\(((s[q].toNat:Int)==39)=xA/\CC b s q d n 32 #[Pz b,Hb 34 #[Pz b] #[]]\/((s[q].toNat:Int)==39)=xN/\(((s[q].toNat:Int)==34)=xA/\CC b s q d n 35 #[Pz b]\/((s[q].toNat:Int)==34)=xN/\(((s[q].toNat:Int)==35)=xA/\CC b s q d n 36 #[Pz b]\/((s[q].toNat:Int)==35)=xN/\Px.wordB s[q]=xA/\CC b s q d n 38 #[Pz b])))):Cp 21 #[Pz b] w λe w'=>Res b s d n w e w':=by have O:=h.lt;obtain⟨V,W,X⟩:=cB h K M;clear h K M;rcases g with⟨B,g⟩|⟨B,⟨C,g⟩|⟨C,⟨D,g⟩|⟨D,⟨E,g⟩|⟨E,hw,g⟩⟩⟩⟩;all_goals replace g:=hZ g;rcases n with⟨c,k⟩|⟨ts,rr⟩;all_goals delta Cp;go_in;go_wp2_with (go_at_call 19;refine(lR (V.o.alloc _) S T).mo ?_;rintro e P ⟨rfl,F,Q,G,l,i,j⟩;refine hO ?_);obtain rfl:F=q:=xF q G Om (l.symm.t X.o);have o:Hid (At b s F d w P):=⟨i,((Only.refl b w).alloc _).t j,(Box.new w _ _ _ _ _ _).kept j Ia Sm,by have:=j.size;simp at this;omega⟩;have Y:=i.c0;have Z:=i.c1;have m:=o.o.lt;clear l i j;have hd:((F:Int)==(s.size:Int))=xN:=So;refine hZ ?_;go_wp2_with (go_at_call 20;refine iC (cL o.o.rd) λn1=>?_);go_quiet (fail);go_wp2_with (first|(go_at_call 37;refine Ds oT ?_)|((first|go_at_call 32|go_at_call 35|go_at_call 36|go_at_call 38);refine(g.o _ (by exact o.o.rd.drewN _) (by exact W.o.only (o.o.only.drewN _) A Om)).mo ?_;(first|rintro e w2 ⟨r,N,rfl,u,H,p',a⟩|rintro e w2 ⟨r,⟨xk,xn,I,J,xm,xa,x,y⟩,t,rfl,rfl,f,a⟩);refine hO ?_));(have a0:P.heap.size<=w2.heap.size:=by have:=r.size;simpa using this);have z:=hZ ((o.o.only.drewN _).t r);replace a:=hZ a;obtain⟨⟨y0,k0⟩,⟨y1,k1⟩,⟨y2,k2⟩,⟨y3,k3⟩,⟨y4,k4⟩,⟨y5,k5⟩,kf⟩:=(o.o.box.drewN _).kept r Ia (by simpa using m);clear r;first|(have a1:w.heap.size+1<=N:=by simp at u;omega);replace H:=hZ H;clear u;refine hZ ?_;go_wp2;refine bodyPost_ret (v:=Tu #[El.nil.v,Pz N]) (by simp[results,results21,go_sem, *]) rfl ?_;exact Res.err z.o (eR _) Om Om H.o rfl rfl a.o O _ _ _ _ _ _|replace f:=hZ f;refine hZ ?_;go_wp2;refine bodyPost_ret (v:=Tu #[El.v ⟨xk,xn,I,J,xm,xa,x,y⟩,.pointer sV]) (by simp[results,results21,go_sem, *]) rfl ?_;exact Res.ok z.o (eR _) (by simpa using m) O f.o a.o rfl _ _ _ _ _ _
theorem KW{d:Nat}(q:Nat)(h:Rd b s p d w)(B:p<=s.size)(C:s.size<=1200)(u:Px.skip xN (L s p)=L s q)(x:q=s.size):Cp 21 #[Pz b] w λe w'=>Res b s d (.inl (3,0)) w e w':=by
 have K:=h.lt;obtain⟨D,E⟩:=aN h u;clear h u;delta Cp;go_in;go_wp2_with (go_at_call 19;refine(lR (D.o.alloc _) B C).mo ?_;rintro e w1 ⟨rfl,l,y,m,g,a,c⟩;refine hO ?_);obtain rfl:l=q:=xF q m Om (g.symm.t E.o);have n:At b s l d w w1:=⟨a,((Only.refl b w).alloc _).t c,(Box.new w _ _ _ _ _ _).kept c Ia Sm,by have:=c.size;simp at this;omega⟩;have k:=hZ n;have F:=a.c0;have G:=a.c1;have z:=n.lt;clear g a c n;have M:((l:Int)==(s.size:Int))=xA:=So;have H:=hZ x;clear x;refine hZ ?_;go_wp2_with (first|(go_at_call 20;refine iC (cL k.o.rd) λO=>?_)|(go_at_call 31;refine(gU).mo ?_;rintro e w' ⟨N,rfl,A,i,f⟩;refine hO ?_));have j:Only b w w':=Only.of (k.o.only.drewN _) f;have o:=hZ ((k.o.rd.drewN _).below f (by first|omega|(simp;done)|(simp;omega)));have I:Box w.heap.size w':=(k.o.box.drewN _).below f (by first|omega|(simp;done)|(simp;omega));have J:w.heap.size+1<=N:=by first|omega|(simp at A;omega)
 obtain⟨⟨P,Q⟩,⟨R,S⟩,⟨T,U⟩,⟨V,W⟩,⟨X,Y⟩,⟨Z,k5⟩,kf⟩:=I;obtain⟨r,t⟩:=aN i j;clear A i f j;refine hZ ?_;go_wp2;refine bodyPost_ret (v:=Tu #[El.nil.v,Pz N]) (by simp[results,results21,go_sem, *]) rfl ?_;exact Res.err t.o (eR _) Om Om r.o rfl (by have:=H.o;simp;omega) o.o Om _ _ _ _ _ _
theorem KX(b:Nat)(s:BA)(p q d:Nat)(w:Wd)(h:Rd b s p d w)(A:p<=s.size)(B:s.size<=1200)(x:Px.skip xN (L s p)=L s q)(C:q<s.size)(D:((s[q].toNat:Int)==40)=xN)(E:((s[q].toNat:Int)==39)=xN)(F:((s[q].toNat:Int)==34)=xN)(G:((s[q].toNat:Int)==35)=xN)(P:Px.wordB s[q]=xN):Cp 21 #[Pz b] w λe w'=>Res b s d (.inl (2,s.size-q)) w e w':=by
 have Q:=h.lt;obtain⟨H,I⟩:=aN h x;clear h x;delta Cp;go_in;go_wp2_with (go_at_call 19;refine(lR (H.o.alloc _) A B).mo ?_;rintro e w1 ⟨rfl,l,y,m,g,c,f⟩;refine hO ?_);obtain rfl:l=q:=xF q m Om (g.symm.t I.o);have n:At b s l d w w1:=⟨c,((Only.refl b w).alloc _).t f,(Box.new w _ _ _ _ _ _).kept f Ia Sm,by have:=f.size;simp at this;omega⟩;have k:=hZ n;have J:=c.c0;have K:=c.c1;have z:=n.lt;clear g c f n;have R:((l:Int)==(s.size:Int))=xN:=So;refine hZ ?_;go_wp2_with (first|(go_at_call 20;refine iC (cL k.o.rd) λS=>?_)|(go_at_call 37;refine(oT).mo ?_;rintro e w' ⟨rfl,rfl⟩)|(go_at_call 31;refine(gU).mo ?_;rintro e w' ⟨N,rfl,o,i,a⟩;refine hO ?_));go_quiet (fail);go_wp2_with (first|(go_at_call 37;refine(oT).mo ?_;rintro e w' ⟨rfl,rfl⟩)|(go_at_call 31;refine(gU).mo ?_;rintro e w' ⟨N,rfl,o,i,a⟩;refine hO ?_));have j:Only b w w':=Only.of (k.o.only.drewN _) a;have r:=hZ ((k.o.rd.drewN _).below a (by first|omega|(simp;done)|(simp;omega)));have M:Box w.heap.size w':=(k.o.box.drewN _).below a (by first|omega|(simp;done)|(simp;omega));have O:w.heap.size+1<=N:=by first|omega|(simp at o;omega)
 obtain⟨⟨T,U⟩,⟨V,W⟩,⟨X,Y⟩,⟨Z,k3⟩,⟨y4,k4⟩,⟨y5,k5⟩,kf⟩:=M;obtain⟨t,u⟩:=aN i j;clear o i a j;refine hZ ?_;go_wp2;refine bodyPost_ret (v:=Tu #[El.nil.v,Pz N]) (by simp[results,results21,go_sem, *]) rfl ?_;exact Res.err u.o (eR _) Om Om t.o rfl Om r.o Om _ _ _ _ _ _
theorem KY:∀F:Nat,Gw F:=by intro F;induction F using Nat.strongRecOn with|ind F x=>intro b s p d w h k e j l c hF;obtain⟨f,rfl⟩:∃f,F=f+1:=⟨F-1,by omega⟩;(obtain⟨q,y,I,g⟩:∃q,p<=q/\q<=s.size/\Px.skip xN (L s p)=L s q:=by have n:=Px.skip_suf (L s p) xN;refine⟨s.size-(Px.skip xN (L s p)).length,?_,by omega,(xE p _ n).symm⟩;have:=n.length_le;rw[eS]at this;omega);by_cases a:q<s.size;cases c40:((s[q].toNat:Int)==40);cases c39:((s[q].toNat:Int)==39);cases c34:((s[q].toNat:Int)==34);cases c35:((s[q].toNat:Int)==35);have z:=beq_eq_false_iff_ne.1 c40;have A:=beq_eq_false_iff_ne.1 c39;have B:=beq_eq_false_iff_ne.1 c34;have C:=beq_eq_false_iff_ne.1 c35;cases hw:Px.wordB s[q];rw[Qw f d s p q g a Om Om Om Om hw];exact KX b s p q d w h k e g a c40 c39 c34 c35 hw;rw[Qq f d s p q g a Om Om Om Om hw];exact mJ q h k e l c g a (.inr ⟨c40,.inr ⟨c39,.inr ⟨c34,.inr ⟨c35,hw,λw0 i o=>Hq i a e j o c⟩⟩⟩⟩);rw[Qr f d s p q g a (by have:=beq_iff_eq.1 c35;omega)];exact mJ q h k e l c g a (.inr ⟨c40,.inr ⟨c39,.inr ⟨c34,.inl ⟨c35,λw0 i _=>Jm i a e j⟩⟩⟩⟩);rw[Qs f d s p q g a (by have:=beq_iff_eq.1 c34;omega)];exact mJ q h k e l c g a (.inr ⟨c40,.inr ⟨c39,.inl ⟨c34,λw0 i _=>Ky i a e j⟩⟩⟩);(have r:s[q].toNat=39:=by have:=beq_iff_eq.1 c39;omega);by_cases m:d=30;rw[zJ f d s p q g a (.inr r) m];exact mJ q h k e l c g a (.inr ⟨c40,.inl ⟨c39,λw0 i _=>Uw b s q d w0 i a e m⟩⟩);rw[Qt f d s p q g a r m];exact mJ q h k e l c g a (.inr ⟨c40,.inl ⟨c39,λw0 i o=>Uv b s q d _ w0 i a e Om o c (λw2 u v=>Qy u Om v c (λw3 D E=>x f Om b s (q+1) (d+1) w3 D Om e Om E c Om))⟩⟩);(have t:s[q].toNat=40:=by have:=beq_iff_eq.1 c40;omega);by_cases m:d=30;rw[zJ f d s p q g a (.inl t) m];exact mJ q h k e l c g a (.inl ⟨c40,λw0 i _=>Uy b s q d w0 i a e m⟩);rw[Qu f d s p q g a t m];exact mJ q h k e l c g a (.inl ⟨c40,λw0 i o=>Ux b s q d _ w0 i a e Om o c (λw2 u v=>list_any f b s (q+1) (d+1) w2 u Om e Om v c Om (λG H=>x G Om))⟩);rw[Qv f d s p q g Om];exact KW q h k e g Om
end Rd
end
section
namespace Rd
open Go.RowKit
theorem Jq(f:Nat)(h:l=[]):Py.topP (f+1) l=.inr ([],[]):=by subst h;rfl
theorem Jr{f:Nat}{l:List UInt8}(a:Px.skip xN l=l)(hne:l≠[])(e:Nat×Nat)(h:Py.rd f xN 0 l=.inl e):Py.topP (f+1) l=.inl e:=by rw[Py.topP,a];cases l with|nil=>exact absurd rfl hne|cons c r=>simp only;rw[h]
theorem xW(f:Nat)(l:List UInt8):Py.topP f (Px.skip xN l)=Py.topP f l:=by cases f with|zero=>rfl|succ f=>rw[Py.topP,Py.topP,Px.skip_idem]
theorem Jo{f:Nat}{x:List Dt}(a:Px.skip xN l=l)(hne:l≠[])(h:Py.rd f xN 0 l=.inr (x,g0)):Py.topP (f+1) l=Py.preP (x.map (λt=>(t,l.length))) (Py.topP f (Px.skip xN g0)):=by rw[xW,Py.topP,a];cases l with|nil=>exact absurd rfl hne|cons c r=>simp only;rw[h];simp only;rcases Py.topP f g0 with e|⟨xs,b⟩<;>rfl
def Fe.cells(x:El×Int):List Vu:=x.1.cells++[Ii x.2]
theorem Ta{v:Vu}(h:w.ownsRow lo 58 7 v n xs):∃a cap,v=Sl a n cap:=by rcases h.2 with⟨b,c⟩|⟨g,cap,d,b,_⟩;subst c;exact⟨_,_,b⟩;exact⟨_,_,b⟩
theorem tM{w w':Wd}{lo b:Nat}{v:Vu}{n:Nat}{xs:List Vu}(h:w.ownsRow lo 58 7 v n xs)(a:Only b w w')(c:b<lo):w'.ownsRow lo 58 7 v n xs:=by refine h.kept a ?_;cases hv:v.ownBlock with|none=>exact .inl rfl|some k=>right;intro e;cases e;have:=(h.lt _ hv).1;omega
theorem BL:(prog.info? 58).map (λi=>(i.zero,i.size,i.bytes))=sT (sT (Ag #[Ii 0,Ii 0,.bool xN,Sg ⟨#[]⟩,Ii 0,Sl sV 0 0,Ii 0]),7,80):=Kr
theorem Mem.turn'{own:Nat->Prop}{es:List El}(h:Mem lo m own w es ts)(a:r<=lo):Mem r m NoB w es ts:=⟨h.len,λi x u b c=>Rep.turn a (λ_ e=>False.elim e) (h.all i x u b c)⟩
def PO(s:BA)(r:Sum (Nat×Nat) (List (Dt×Nat)×List UInt8))(w:Wd)(e:En)(w':Wd):Prop:=
 Below w.heap.size w w'/\
 match r with
 | .inl (c,k)=>∃N,e=Rt (Tu #[Sl sV 0 0,Pz N])/\w.heap.size<=N/\w'.heap[N]? =sT (Cl #[Ii (c:Int),Ii ((s.size-k:Nat):Int)] 48)
 | .inr (ts,_)=>∃(es:List (El×Int)) (a:OA) (cap:Nat),e=Rt (Tu #[Sl a es.length cap,.pointer sV])/\w'.ownsRow w.heap.size 58 7 (Sl a es.length cap) es.length (es.flatMap Fe.cells)/\Mem w.heap.size 32 NoB w' (es.map (·.1)) (ts.map (·.1))/\es.map (·.2)=ts.map (λt=>((s.size-t.2:Nat):Int))/\es.length<=s.size
def PG(F b:Nat)(s:BA)(w:Wd)(mv:Vu)(wr:Wd):Prop:=
 ∃(q f:Nat) (es:List (El×Int)) (ts:List (Dt×Nat)),q<=s.size/\Px.skip xN (L s q)=L s q/\Rd b s q 0 wr/\Only b w wr/\
  wr.ownsRow (b+1) 58 7 mv es.length (es.flatMap Fe.cells)/\Mem (b+1) 32 (Bl mv) wr (es.map (·.1)) (ts.map (·.1))/\es.map (·.2)=ts.map (λt=>((s.size-t.2:Nat):Int))/\es.length<=q/\2*(s.size-q)+2<=f/\
  Py.topP F (L s 0)=Py.preP ts (Py.topP f (L s q))
theorem text_any(s:BA)(w:Wd)(hs:s.size<=1200)(hG:GV w)(hw:6<=w.heap.size):Cp 13 #[Sg s] w λe w'=>PO s (Py.topP (2*s.size+2) (L s 0)) w e w':=by
 have HG:=hZ hG;clear hG;have K:∀o:Obj,o=Cl #[Sg s,Ii 0,Ii 0] 75 (0,0)->Rd w.heap.size s 0 0 (w.alloc o):=λo ho=>by subst ho;exact eN w _
 have d1:=hZ K;clear K;have e8:decide (1200<(s.size:Int))=xN:=So;delta Cp;go_in;go_wp2_with (go_at_call 19;refine(lR (d1.o _ rfl) Om hs).mo ?_;rintro e w1 ⟨rfl,q0,e6,d2,M,a6,a7⟩;refine hO ?_);obtain⟨d3,d4,O⟩:=cB a6 (((Only.refl w.heap.size w).alloc _).t a7) M;clear a6 a7 M;refine hZ ?_;go_wp2;go_loopw [5] (PG (2*s.size+2) w.heap.size s w) (λ_ wr=>s.size-eD w.heap.size wr);case atStart=>exact⟨q0,2*s.size+2,[],[],d2,by rw[<-O.o,Px.skip_idem],d3.o,d4.o,VG _ _ _ _,Mem.nil _ _ _ _,rfl,by simp,by omega,by rw[<-O.o,xW,Py.preP_nil]⟩
 case round=>obtain⟨q,f,es,ts,hq,a8,K,A,P,Q,a9,e9,f0,b0⟩:=hrel;obtain⟨f,rfl⟩:∃f',f=f'+1:=⟨f-1,by omega⟩;obtain⟨i0,hi,b1,b2,b3⟩:=info_parts BL;obtain⟨p,HO,n,r,X,b4,b5⟩:=gV K A P Q b0 a8 a9;have f1:=K.c1;have b6:Hid (eD w.heap.size wr=q):=K.pos;have f2:w.heap.size<wr.heap.size:=K.lt;clear K A Q b0 a8 P a9;by_cases d5:q<s.size;(·have hd:((q:Int)==(s.size:Int))=xN:=So;(have hne:L s q≠[]:=by rw[dD s q d5];simp);obtain⟨b7,B⟩:=aN hne (KY f w.heap.size s q 0);clear hne;cases hr:Py.rd f xN 0 (L s q)with|inl ck=>obtain⟨c,k⟩:=ck;(have HT:Hid (Py.topP (2*s.size+2) (L s 0)=.inl (c,k)):=by show _=_;rw[X.o,Jr b4.o b7.o (c,k) hr];rfl);(have C:Hid (∀w0,Rd w.heap.size s q 0 w0->GV w0->Cp 21 #[Pz w.heap.size] w0 λe w'=>Res w.heap.size s 0 (.inl (c,k)) w0 e w'):=by intro w0 h1 h2;have:=B.o w0 h1 hq hs Om h2 hw Om;rw[hr]at this;exact this);clear hr B;go_wp2_with (first|(go_at_call 20;refine iC (cL p.o) λn1=>?_)|(go_at_call 21;refine(C.o _ (by exact p.o.drewN _) (by exact(HG.o.only (HO.o.drewN _) hw Om))).mo ?_;rintro e w1 ⟨A,N,rfl,b8,hN,p',d6⟩;refine hO ?_));(have d7:w.heap.size<=N:=by simp at b8;omega);obtain⟨HN,D⟩:=aN hN ((HO.o.drewN _).t A);clear A hN b8 d6;refine hZ ?_;go_wp2;go_ret2;rw[HT.o];exact⟨(D.o.alloc _).below (eR _) (eR _),N,rfl,d7,by rw[eH _ _ _ (eE.1 HN.o).1];exact HN.o⟩|inr xr=>obtain⟨xs,rr⟩:=xr;obtain⟨R,b9,S⟩:=Py.rd_short f xN 0 (L s q) xs rr hr;obtain⟨t,rfl⟩:=S rfl;have HT:=hZ (Jo b4.o b7.o hr);(have C:Hid (∀w0,Rd w.heap.size s q 0 w0->GV w0->Cp 21 #[Pz w.heap.size] w0 λe w'=>Res w.heap.size s 0 (.inr ([t],rr)) w0 e w'):=by intro w0 h1 h2;have:=B.o w0 h1 hq hs Om h2 hw Om;rw[hr]at this;exact this);have c0:=xE q rr R;have d8:=hZ c0;rw[eS]at b9;clear hr B R c0 S;go_wp2_with (first|(go_at_call 20;refine iC (cL p.o) λn1=>?_)|(go_at_call 21;refine(C.o _ (by exact p.o.drewN _) (by exact(HG.o.only (HO.o.drewN _) hw Om))).mo ?_;rintro e w1 ⟨A,x,t',ht,rfl,T,c7⟩;refine hO ?_));obtain rfl:t'=t:=(List.cons.inj ht).1.symm;clear ht;(have f3:wr.heap.size<=w1.heap.size:=by have:=A.size;simpa using this);have E:Only w.heap.size wr w1:=((Only.refl w.heap.size wr).drewN n1).t A;obtain⟨D,c8⟩:=aN (HO.o.t E) c7;have v:=tM n.o E Om;obtain⟨y,HRep,j⟩:=cB (r.o.only E Om) T v;have HV:Hid (∀k,u5.ownBlock=sT k->k<wr.heap.size):=λk hk=>(n.o.lt k hk).2;clear A E c7 T v n r C;obtain⟨F,G,l,m,H,I,b,d⟩:=x;refine hZ ?_;go_wp2_with (at_builtin;refine wpList_append_lies _ rfl _ _ 43 rfl (w.heap.size+1) 58 i0 (Ag #[Ii 0,Ii 0,.bool xN,Sg ⟨#[]⟩,Ii 0,Sl sV 0 0,Ii 0]) 7 80 underlying43 hi b1 b2 b3 rfl De _ _ _ rfl ((j.o.alloc _).alloc _) (Aa (w1.heap.size+1)) 1 1 [Ii F,Ii G,.bool l,Sg m,Ii H,Sl I b d,Ii q] rfl rfl ?c1 ?c2 De ?c3 ?c4 ?c5 (w1.heap.size+1+1) ?c6 ?_);(case c1=>exact VI (cs:=#[Ii F,Ii G,.bool l,Sg m,Ii H,Sl I b d,Ii q]) new2);(case c2=>intro u hu;simp at hu;rcases hu with rfl|rfl|rfl|rfl|rfl|rfl|rfl<;>rfl);(case c3=>unfold maxLen;omega);(case c4=>omega);(case c5=>simp;omega);(case c6=>simp);intro g cap w3 z i U c9;refine hO ?_;obtain⟨d9,e0⟩:=aN (((D.o.alloc _).alloc _).newO i (λk h=>by have:=(j.o.lt k h).1;omega)) (((c8.o.alloc _).alloc _).kept i (by intro e;have:=(j.o.lt _ e.symm).1;omega));have Y:=UW w1 (Obj.cells #[Value.int UZ F,Value.int UZ G,Value.bool l,Value.string m,Value.int UZ H,Value.slice I b d] 56) sV;have Z:=UW (w1.alloc (Obj.cells #[Value.int UZ F,Value.int UZ G,Value.bool l,Value.string m,Value.int UZ H,Value.slice I b d] 56)) (Obj.cells #[Value.int UZ F,Value.int UZ G,Value.bool l,Value.string m,Value.int UZ H,Value.slice I b d,Value.int UZ q] 58) sV;obtain⟨a0,a1⟩:=aN (Mem.grow (sl:=Sl (sT (Aa g)) (es.length+1) cap) (x:=⟨F,G,l,m,H,I,b,d⟩) (lo2:=wr.heap.size) ((y.o.kept Y (λg h=>by cases h)).kept Z (λg h=>by cases h)) i U Sm rfl (Rep.kept Z (λg h=>by cases h) (Rep.kept Y (λg h=>by cases h) HRep.o)) Om HV.o) z;(have e3:Hid (VJ Fe.cells es++[Value.int UZ F,Value.int UZ G,Value.bool l,Value.string m,Value.int UZ H,Value.slice I b d,Value.int UZ q]=VJ Fe.cells (es++[(⟨F,G,l,m,H,I,b,d⟩,(q:Int))])):=by show _=_;simp[Fe.cells,El.cells]);clear z i U c9 Y Z j y c8 D HRep HV;refine hZ ?_;go_wp2_with (go_at_call 19;refine(lR e0.o Om hs).mo ?_;rintro e w4 ⟨rfl,q2,e7,d0,V,a2,J⟩;refine hO ?_);obtain⟨e4,e5,a3,a4,W⟩:=fR (d9.o.t J) a2 (tM a1.o J Om) (a0.o.only J Om) V;have a5:Hid (eD w.heap.size w4=q2):=a2.pos;clear a2 J V;refine hZ ?_;go_wp2;go_roundw;(case rel=>refine⟨q2,f,es++[(⟨F,G,l,m,H,I,b,d⟩,(q:Int))],ts++[(t',(L s q).length)],d0,by rw[<-W.o,Px.skip_idem],e5.o,e4.o,?_,?_,?_,by simp;omega,by omega,?_⟩;rw[<-e3.o];simpa using a3.o;simpa using a4.o;rw[VK,VK,b5.o];simp only[List.map_cons,List.map_nil,eS];congr 3;omega;rw[X.o,HT.o,Py.preP_pre,<-W.o,d8.o];rfl);case measure=>have e1:=b6.o;have e2:=a5.o;rw[e1,e2];omega);have hd:((q:Int)==(s.size:Int))=xA:=So;(have HT:Hid (Py.topP (2*s.size+2) (L s 0)=.inr (ts,[])):=by show _=_;rw[X.o,Jq f (kP s q Om)];simp[Py.preP]);obtain⟨a,cap,rfl⟩:=Ta n.o;go_wp2_with (go_at_call 20;refine iC (cL p.o) λn1=>?_);go_ret2;rw[HT.o];exact⟨(HO.o.drewN _).below (eR _) (eR _),es,a,cap,rfl,tL (tM n.o ((Only.refl w.heap.size wr).drewN n1) Om) (VL _),(r.o.only ((Only.refl w.heap.size wr).drewN n1) Om).turn' (VL _),b5.o,by omega⟩
end Rd
end
end
section
open Go.RowKit Go.Shelf
open Sc
open Go.Instr renaming typeAssert→VP
open Go.Op renaming equalIn→VN
open Go.World renaming cell?_of_block→VA,cell?→UT
variable {A C n:Int}{Q:En->Wd->Prop}{Y Z:Vu}{b d0 d1 d2 d3 k o r ty:Nat}{k0:OA}{l0 l1:Array Vu}{w:Wd}
section
def Mt(b:Nat)(t mo out:Int)(w:Wd):Prop:=w.heap[b]? =sT (Cl #[Ii t,Ii mo,Ii out] 113)
theorem Mt.c0{t:Int}(h:Mt b t A C w):w.cell? (Aa b)=sT (Ii t):=by unfold Mt at h;simp[UT,h]
theorem Mt.c1{t:Int}(h:Mt b t A C w):w.cell? (Ab b 1)=sT (Ii A):=by unfold Mt at h;simp[UT,h]
theorem Mt.c2{t:Int}(h:Mt b t A C w):w.cell? (Ab b 2)=sT (Ii C):=by unfold Mt at h;simp[UT,h]
theorem Mt.fz{t:Int}(h:Mt b t A C w)(o:Nat):w.frozen? (Ab b o)=xN:=by unfold Mt at h;simp[World.frozen?,h]
theorem Mt.lt{t:Int}(h:Mt b t A C w):b<w.heap.size:=(eE.1 h).1
abbrev aD(vd:Int):Vu:=If 115 (Ag #[Ii vd,Sg ⟨#[]⟩])
theorem cZ(t a c n:Int)(w:Wd)(h:Mt b t a c w)(d:0<=t)(f:t+n<=a)(g:0<=n)(i:a<=1000000):Cp 108 #[Pz b,Ii n] w λe w'=>e=Rt (Tu #[])/\∃k,w'=(w.setCell (Aa b) (Ii (t+n))).drewN k:=by have c0:=h.c0;have c1:=h.c1;have j:=h.fz 0;have l:=hZ h;clear h;have m:¬(a-t<n):=Om;go_enter func108,ntmps108;go_wp2;go_quiet (fail);go_wp2;go_end0;exact⟨rfl,nq,rfl⟩
theorem nG{B:Nat}{a b:Wd}{n:Nat}(h:Below B a b):Below B a (b.drewN n):=⟨h.os,h.tape,h.output,h.size,h.block⟩
structure Lk (W w:Wd):Prop where
 heap:w.heap=W.heap
 tape:w.tape=W.tape
 os:w.os=W.os
 output:w.output=W.output
abbrev aB(v:Vu):List PanicEntry:=[{v:=v,recovered:=xN}]
theorem fL:Cp 64 #[Ii n] w λe w'=>e=Rt (Ag #[Ii n,Sg ⟨#[]⟩])/\∃o,w'=w.alloc o:=by go_enter func64,ntmps64;go_wp2;refine bodyPost_ret (v:=Ag #[Ii n,Sg ⟨#[]⟩]) (by simp[results,results64,go_sem, *]) rfl ?_;exact⟨rfl,_,rfl⟩
theorem dH(t n:Int)(w:Wd)(h:Mt b t A C w)(a:0<=t)(c:A<t+n)(_:0<=n)(d:t<=A)(f:A<=1000000):Cp 108 #[Pz b,Ii n] w λe w'=>e=Pk (aB (aD C))/\Below w.heap.size (w.setCell (Aa b) (Ii A)) w':=by have c0:=h.c0;have c1:=h.c1;have c2:=h.c2;have g:=h.fz 0;have i:=hZ h;clear h;have j:A-t<n:=Om;go_enter func108,ntmps108;go_wp2;go_quiet (fail);go_wp2_with (go_at_call 64;refine(fL).mo ?_;rintro e w2 ⟨rfl,o,rfl⟩);exact⟨rfl,rfl,((nG (Below.refl w.heap.size _))).alloc Sm _⟩
theorem jQ:Cp 171 #[.bool xA,Ii n] w λe w'=>e=Rt (Tu #[])/\w'=w:=by go_enter func171,ntmps171;go_wp2;go_end0;exact⟨rfl,rfl⟩
theorem kQ:Cp 171 #[.bool xN,Ii n] w λe w'=>e=Pk (aB (aD n))/\∃o,w'=w.alloc o:=by go_enter func171,ntmps171;go_wp2_with (go_at_call 64;refine(fL).mo ?_;rintro e w2 ⟨rfl,o,rfl⟩);exact⟨rfl,rfl,o,rfl⟩
theorem gX(n:Nat)(p:Addr):(w.drewN n).cell? p=w.cell? p:=rfl
theorem cJ{a p:Addr}{v:Vu}(h:p.block≠a.block):(w.setCell a v).cell? p=w.cell? p:=VA (w:=w) (Below.heap_setCell _ _ _ _ h)
theorem aC{v:Vu}(h:w.cell? (Ab b o)=sT v):b<w.heap.size:=by rcases Nat.lt_or_ge b w.heap.size with h'|h';exact h';rw[UT]at h;simp[Array.getElem?_eq_none h']at h
theorem aE(h:b<w.heap.size)(a:Obj):(w.alloc a).cell? (Ab b o)=w.cell? (Ab b o):=VA (w:=w) (eH _ _ _ h)
theorem gY(h:b<w.heap.size)(a c:Obj):((w.alloc a).alloc c).cell? (Ab b o)=w.cell? (Ab b o):=(aE So _).t (aE h _)
theorem nE(h:b<w.heap.size)(a c o2:Obj):(((w.alloc a).alloc c).alloc o2).cell? (Ab b o)=w.cell? (Ab b o):=(aE So _).t (gY h _ _)
theorem MK{a c o2 d:Obj}(h:b<w.heap.size):((((w.alloc a).alloc c).alloc o2).alloc d).cell? (Ab b o)=w.cell? (Ab b o):=(aE So _).t (nE h _ _ _)
theorem MJ(h:b<w.heap.size)(a c o2 d e:Obj):(((((w.alloc a).alloc c).alloc o2).alloc d).alloc e).cell? (Ab b o)=w.cell? (Ab b o):=(aE So _).t (MK h)
theorem Lu{t:Int}(a:Array Vu)(s:∀args w,(callFunc k args).run prog w=.ok (.enter k args) w)(c:∀e w,Q e w->(∃v,e=Rt v)\/(∃d,e=Pk d))(u:w.cell? (Aa d1)=sT (Pz r))(x:w.cell? (Aa r)=sT (Pz d0))(i:w.cell? (Aa d2)=sT (.func (.func k) #[] a))(f:Mt d0 t A 10 w)(j:0<=t)(l:t+1<=A)(m:A<=1000000)(hne:d2≠d0)(g:∀w',Lk (w.setCell (Aa d0) (Ii (t+1))) w'->Cp k (#[.pointer k0,.func (.func d3) #[] l0]++a) w' Q):Cp 266 #[.pointer k0,.func (.func d3) #[] l0,Pz d1,Pz d2] w Q:=by
 obtain⟨o,p⟩:=aN g c;have y:∀n,((w.setCell (Aa d0) (Ii (t+1))).drewN n).cell? (Aa d2)=sT (.func (.func k) #[] a):=λn=>by rw[gX,cJ hne];exact i
 have q:=hZ (cZ t A 10 1 w f j l Om m);clear g c f;go_enter func266,ntmps266;go_wp2_with (go_at_call 108;refine q.o.mo ?_;rintro e w2 ⟨rfl,n,rfl⟩);go_wp2_with (go_at_fn k;refine(o.o _ Lq).mo ?_;intro e w2 b);all_goals first|exact b|exact⟨rfl,b⟩|(rcases p.o _ _ b with⟨v,h⟩|⟨d,h⟩<;>cases h)|trace_state
theorem Of(b:Array Vu)(p:∀args w,(callFunc k args).run prog w=.ok (.enter k args) w)(g:∀e w,Q e w->(∃v,e=Rt v)\/(∃i,e=Pk i))(c:w.cell? (Aa r)=sT (.func (.func k) #[] b))(j:∀w',Lk ((w.alloc (Cl #[.pointer k0] 240)).alloc (Cl #[.func (.func d1) #[] l0] 161)) w'->Cp k (#[.pointer k0,.func (.func 270) #[] #[Pz d0,Pz w.heap.size,Pz (w.heap.size+1)]]++b) w' Q):Cp 269 #[.pointer k0,.func (.func d1) #[] l0,Pz r,Pz d0] w Q:=by
 obtain⟨n,o⟩:=aN j g;have l:∀a:Obj,(w.alloc a).cell? (Aa r)=sT (.func (.func k) #[] b):=λa=>by rw[<-c];exact aE (aC c) a
 have m:∀a d:Obj,((w.alloc a).alloc d).cell? (Aa r)=sT (.func (.func k) #[] b):=λa d=>by rw[<-c];exact gY (aC c) a d
 clear j g;go_enter func269,ntmps269;go_wp2_with (go_at_fn k;refine(n.o _ Lq).mo ?_;intro e w2 f);all_goals first|exact f|exact⟨rfl,f⟩|(rcases o.o _ _ f with⟨v,h⟩|⟨i,h⟩<;>cases h)
theorem Oe{v:Vu}(b:OA)(c:Nat)(d:Array Vu)(f:Array Vu)(n:∀args w,(callFunc k args).run prog w=.ok (.enter k args) w)(g:∀e w,Q e w->(∃v,e=Rt v)\/(∃i,e=Pk i))(o:w.cell? (Aa r)=sT (.func (.func k) #[] f))(p:w.cell? (Aa d0)=sT (.pointer b))(q:w.cell? (Aa d1)=sT (.func (.func c) #[] d))(j:∀w',Lk w w'->Cp k (#[.pointer b,.func (.func c) #[] d]++f) w' Q):Cp 270 #[v,Pz r,Pz d0,Pz d1] w Q:=by obtain⟨l,m⟩:=aN j g;clear j g;go_enter func270,ntmps270;go_wp2_with (go_at_fn k;refine(l.o _ Lq).mo ?_;intro e w2 a);all_goals first|exact a|exact⟨rfl,a⟩|(rcases m.o _ _ a with⟨v,h⟩|⟨i,h⟩<;>cases h)
theorem BU(b:Array Vu)(p:∀args w,(callFunc k args).run prog w=.ok (.enter k args) w)(g:∀e w,Q e w->(∃v,e=Rt v)\/(∃i,e=Pk i))(c:w.cell? (Aa r)=sT (.func (.func k) #[] b))(j:∀w',Lk ((w.alloc (Cl #[.pointer k0] 240)).alloc (Cl #[.func (.func d2) #[] l0] 161)) w'->Cp k (#[.pointer k0,.func (.func 284) #[] #[Pz d0,Pz w.heap.size,Pz (w.heap.size+1),Pz d1]]++b) w' Q):Cp 283 #[.pointer k0,.func (.func d2) #[] l0,Pz r,Pz d0,Pz d1] w Q:=by
 obtain⟨n,o⟩:=aN j g;have l:∀a:Obj,(w.alloc a).cell? (Aa r)=sT (.func (.func k) #[] b):=λa=>by rw[<-c];exact aE (aC c) a
 have m:∀a d:Obj,((w.alloc a).alloc d).cell? (Aa r)=sT (.func (.func k) #[] b):=λa d=>by rw[<-c];exact gY (aC c) a d
 clear j g;go_enter func283,ntmps283;go_wp2_with (go_at_fn k;refine(n.o _ Lq).mo ?_;intro e w2 f);all_goals first|exact f|exact⟨rfl,f⟩|(rcases o.o _ _ f with⟨v,h⟩|⟨i,h⟩<;>cases h)
theorem set1(b j:Nat)(f:OA)(l:Nat)(m:Array Vu)(k:Nat)(c:Array Vu)(w:Wd)(Q:En->Wd->Prop)(u:∀args w,(callFunc k args).run prog w=.ok (.enter k args) w)(n:∀e w,Q e w->(∃v,e=Rt v)\/(∃o,e=Pk o))(d:w.cell? (Aa b)=sT (.func (.func k) #[] c))(p:∀w',Lk ((w.alloc (Cl #[.pointer f] 240)).alloc (Cl #[.func (.func l) #[] m] 161)) w'->Cp k (#[.pointer f,.func (.func 246) #[] #[Pz j,Pz w.heap.size,Pz (w.heap.size+1)]]++c) w' Q):Cp 245 #[.pointer f,.func (.func l) #[] m,Pz b,Pz j] w Q:=by
 obtain⟨s,t⟩:=aN p n;have q:∀a:Obj,(w.alloc a).cell? (Aa b)=sT (.func (.func k) #[] c):=λa=>by rw[<-d];exact aE (aC d) a
 have r:∀a g:Obj,((w.alloc a).alloc g).cell? (Aa b)=sT (.func (.func k) #[] c):=λa g=>by rw[<-d];exact gY (aC d) a g
 clear p n;go_enter func245,ntmps245;go_wp2_with (go_at_fn k;refine(s.o _ Lq).mo ?_;intro e w2 i);all_goals first|exact i|exact⟨rfl,i⟩|(rcases t.o _ _ i with⟨v,h⟩|⟨o,h⟩<;>cases h)
end
section
theorem EM(d a ty:Nat)(b c:Vu)(h:a≠ty)(w:Wd):(VN (d+1) 63 (If a b) (If ty c)).run prog w=.ok xN w:=by simp[VN,run_underlying underlying63,h]
theorem dB(h:r≠ty)(w:Wd):(binOp .eql 63 (If r Y) (If ty Z)).run prog w=.ok (.bool xN) w:=by have a:(Op.equal 63 (If r Y) (If ty Z)).run prog w=.ok xN w:=EM 9999 r ty Y Z h w;simp[binOp,a]
theorem jH{I:Bool}(a:Nat)(w w':Wd)(h:∀d,(VN (d+1+1) 63 (If a Y) (If a Z)).run prog w=.ok I w'):(binOp .eql 63 (If a Y) (If a Z)).run prog w=.ok (.bool I) w':=by have b:(Op.equal 63 (If a Y) (If a Z)).run prog w=.ok I w':=h 9998;simp[binOp,b]
theorem MD:Tryz.t80.comparable=xA:=Kr
theorem MC:Tryz.t81.comparable=xA:=Kr
theorem MB:Tryz.t82.comparable=xA:=Kr
theorem MA:Tryz.t83.comparable=xA:=Kr
theorem LZ:Tryz.t86.comparable=xA:=Kr
theorem LT:Tryz.t241.comparable=xA:=Kr
theorem LY:Tryz.t103.comparable=xA:=Kr
theorem LX:Tryz.t132.comparable=xA:=Kr
theorem LW:Tryz.t133.comparable=xA:=Kr
theorem LU:Tryz.t134.comparable=xA:=Kr
theorem EG{a b:Int}(w:Wd):(binOp .eql 63 (If 80 (Ii a)) (If 80 (Ii b))).run prog w=.ok (.bool (a==b)) w:=jH 80 w w λd=>by simp[VN,run_underlying underlying63,run_underlying underlying80,MD]
theorem rD(a b:Bool)(w:Wd):(binOp .eql 63 (If 81 (.bool a)) (If 81 (.bool b))).run prog w=.ok (.bool (a==b)) w:=jH 81 w w λd=>by simp[VN,run_underlying underlying63,run_underlying underlying81,MC]
theorem EF(a b:BA)(w:Wd):(binOp .eql 63 (If 82 (Sg a)) (If 82 (Sg b))).run prog w=.ok (.bool (a==b)) w:=jH 82 w w λd=>by simp[VN,run_underlying underlying63,run_underlying underlying82,MB]
theorem EE(a b:BA)(w:Wd):(binOp .eql 63 (If 83 (Sg a)) (If 83 (Sg b))).run prog w=.ok (.bool (a==b)) w:=jH 83 w w λd=>by simp[VN,run_underlying underlying63,run_underlying underlying83,MA]
theorem Dr(w:Wd):(binOp .eql 63 (If 86 (Ag #[])) (If 86 (Ag #[]))).run prog w=.ok (.bool xA) w:=jH 86 w w λd=>by simp[VN,run_underlying underlying63,run_underlying underlying86,LZ]
theorem EH(w:Wd):(binOp .eql 63 (If 241 (Ag #[])) (If 241 (Ag #[]))).run prog w=.ok (.bool xA) w:=jH 241 w w λd=>by simp[VN,run_underlying underlying63,run_underlying underlying241,LT]
end
section
theorem uW{v:Vu}(w:Wd):(VP (If 80 v) 63 80 xA).run prog w=.ok (Tu #[v,.bool xA]) w:=Kr
theorem iT{t:Nat}{v:Vu}(h:t≠80)(w:Wd):(VP (If t v) 63 80 xA).run prog w=.ok (Tu #[Ii 0,.bool xN]) w:=by simp[VP,run_underlying underlying80,h,go_sem]
theorem Co{v:Vu}(w:Wd):(VP (If 81 v) 63 81 xA).run prog w=.ok (Tu #[v,.bool xA]) w:=Kr
theorem kF{t:Nat}{v:Vu}(h:t≠81)(w:Wd):(VP (If t v) 63 81 xA).run prog w=.ok (Tu #[.bool xN,.bool xN]) w:=by simp[VP,run_underlying underlying81,h,go_sem]
theorem uU{v:Vu}(w:Wd):(VP (If 82 v) 63 82 xA).run prog w=.ok (Tu #[v,.bool xA]) w:=Kr
theorem kE{t:Nat}{v:Vu}(h:t≠82)(w:Wd):(VP (If t v) 63 82 xA).run prog w=.ok (Tu #[Sg ⟨#[]⟩,.bool xN]) w:=by simp[VP,run_underlying underlying82,h,go_sem]
theorem uT{v:Vu}(w:Wd):(VP (If 83 v) 63 83 xA).run prog w=.ok (Tu #[v,.bool xA]) w:=Kr
theorem lA{t:Nat}{v:Vu}(h:t≠83)(w:Wd):(VP (If t v) 63 83 xA).run prog w=.ok (Tu #[Sg ⟨#[]⟩,.bool xN]) w:=by simp[VP,run_underlying underlying83,h,go_sem]
theorem uS{v:Vu}(w:Wd):(VP (If 86 v) 63 86 xA).run prog w=.ok (Tu #[v,.bool xA]) w:=Kr
theorem mB{t:Nat}{v:Vu}(h:t≠86)(w:Wd):(VP (If t v) 63 86 xA).run prog w=.ok (Tu #[Ag #[],.bool xN]) w:=by simp[VP,run_underlying underlying86,h,go_sem]
theorem kG{v:Vu}(w:Wd):(VP (If 103 v) 63 103 xA).run prog w=.ok (Tu #[v,.bool xA]) w:=Kr
theorem kD{t:Nat}{v:Vu}(h:t≠103)(w:Wd):(VP (If t v) 63 103 xA).run prog w=.ok (Tu #[.pointer sV,.bool xN]) w:=by simp[VP,run_underlying underlying103,h,go_sem]
theorem qS{v:Vu}(w:Wd):(VP (If 132 v) 63 132 xA).run prog w=.ok (Tu #[v,.bool xA]) w:=Kr
theorem lZ{t:Nat}{v:Vu}(h:t≠132)(w:Wd):(VP (If t v) 63 132 xA).run prog w=.ok (Tu #[.pointer sV,.bool xN]) w:=by simp[VP,run_underlying underlying132,h,go_sem]
theorem uR{v:Vu}(w:Wd):(VP (If 133 v) 63 133 xA).run prog w=.ok (Tu #[v,.bool xA]) w:=Kr
theorem uO{t:Nat}{v:Vu}(h:t≠133)(w:Wd):(VP (If t v) 63 133 xA).run prog w=.ok (Tu #[.pointer sV,.bool xN]) w:=by simp[VP,run_underlying underlying133,h,go_sem]
theorem AP{v:Vu}(w:Wd):(VP (If 134 v) 63 134 xA).run prog w=.ok (Tu #[v,.bool xA]) w:=Kr
theorem AL{t:Nat}{v:Vu}(h:t≠134)(w:Wd):(VP (If t v) 63 134 xA).run prog w=.ok (Tu #[.pointer sV,.bool xN]) w:=by simp[VP,run_underlying underlying134,h,go_sem]
end
section
theorem BS(i:∀args w,(callFunc k args).run prog w=.ok (.enter k args) w)(b:∀e w,Q e w->(∃v,e=Rt v)\/(∃c,e=Pk c))(j:w.cell? (Aa r)=sT (Ha k l1))(l:w.cell? (Aa d0)=sT (.pointer k0))(m:w.cell? (Aa d1)=sT (Ha d3 l0))(d:∀w',Lk w w'->Cp k (#[.pointer k0,Ha d3 l0]++l1) w' Q):Cp 284 #[If 81 (.bool xN),Pz r,Pz d0,Pz d1,Pz d2] w Q:=by obtain⟨f,g⟩:=aN d b;have n:∀w,(binOp BinOp.eql 63 (If 81 (.bool xN)) (If 81 (.bool xN))).run prog w=.ok (.bool xA) w:=λw=>rD _ _ w;clear d b;delta Cp;go_in;go_wp2_with (go_at_fn k;refine(f.o _ Lq).mo ?_;intro e w2 a);all_goals first|exact a|exact⟨rfl,a⟩|(rcases g.o _ _ a with⟨v,h⟩|⟨c,h⟩<;>cases h)
theorem BR(i:∀args w,(callFunc k args).run prog w=.ok (.enter k args) w)(b:∀e w,Q e w->(∃v,e=Rt v)\/(∃c,e=Pk c))(j:w.cell? (Aa d2)=sT (Ha k l1))(l:w.cell? (Aa d0)=sT (.pointer k0))(m:w.cell? (Aa d1)=sT (Ha d3 l0))(d:∀w',Lk w w'->Cp k (#[.pointer k0,Ha d3 l0]++l1) w' Q):Cp 284 #[If 81 (.bool xA),Pz r,Pz d0,Pz d1,Pz d2] w Q:=by obtain⟨f,g⟩:=aN d b;have n:∀w,(binOp BinOp.eql 63 (If 81 (.bool xA)) (If 81 (.bool xN))).run prog w=.ok (.bool xN) w:=λw=>rD _ _ w;clear d b;delta Cp;go_in;go_wp2_with (go_at_fn k;refine(f.o _ Lq).mo ?_;intro e w2 a);all_goals first|exact a|exact⟨rfl,a⟩|(rcases g.o _ _ a with⟨v,h⟩|⟨c,h⟩<;>cases h)
theorem BT{x:Vu}(j:∀args w,(callFunc k args).run prog w=.ok (.enter k args) w)(c:∀e w,Q e w->(∃v,e=Rt v)\/(∃d,e=Pk d))(l:w.cell? (Aa d2)=sT (Ha k l1))(m:w.cell? (Aa d0)=sT (.pointer k0))(n:w.cell? (Aa d1)=sT (Ha d3 l0))(a:ty≠81)(f:∀w',Lk w w'->Cp k (#[.pointer k0,Ha d3 l0]++l1) w' Q):Cp 284 #[If ty x,Pz r,Pz d0,Pz d1,Pz d2] w Q:=by obtain⟨g,i⟩:=aN f c;have o:∀w,(binOp BinOp.eql 63 (If ty x) (If 81 (.bool xN))).run prog w=.ok (.bool xN) w:=λw=>dB a w;clear f c;delta Cp;go_in;go_wp2_with (go_at_fn k;refine(g.o _ Lq).mo ?_;intro e w2 b);all_goals first|exact b|exact⟨rfl,b⟩|(rcases i.o _ _ b with⟨v,h⟩|⟨d,h⟩<;>cases h)
theorem Lt{t:Int}(g:w.cell? (Aa d1)=sT (Pz r))(h:w.cell? (Aa r)=sT (Pz d0))(a:Mt d0 t t 10 w)(b:0<=t)(c:t<=1000000):Cp 266 #[.pointer k0,Ha d3 l0,Pz d1,Pz d2] w λe w'=>e=Pk (aB (aD 10))/\Below w.heap.size (w.setCell (Aa d0) (Ii t)) w':=by have d:=hZ (dH t 1 w a b Om Om Om c);clear a;delta Cp;go_in;go_wp2_with (go_at_call 108;refine iF d.o λw2 f=>?_);exact⟨rfl,rfl,f⟩
theorem Ob{ks:Nat}{v:Vu}(cs:Array Vu)(d:OA)(f:Array Vu)(n:∀args w,(callFunc d2 args).run prog w=.ok (.enter d2 args) w)(es:∀args w,(callFunc ks args).run prog w=.ok (.enter ks args) w)(g:∀e w,Q e w->(∃v,e=Rt v)\/(∃a,e=Pk a))(o:w.cell? (Aa r)=sT (Ha ks cs))(p:w.cell? (Aa d0)=sT (.pointer d))(i:Cp ks (#[.pointer d,v]++cs) w λe c=>(e=Rt (Tu #[])/\c.cell? (Aa d1)=sT (Ha d2 f)/\Cp d2 (#[If 241 (Ag #[])]++f) c Q)\/((∃a,e=Pk a)/\Q e c)):Cp 246 #[v,Pz r,Pz d0,Pz d1] w Q:=by
 obtain⟨k,l⟩:=aN i g;clear i g;delta Cp;go_in;go_wp2_with (go_at_fn ks;refine k.o.mo ?_;rintro e c (⟨rfl,q,j⟩|⟨⟨a,rfl⟩,b⟩));·have m:=hZ j;clear j;go_wp2_with (go_at_fn d2;refine m.o.mo ?_;intro e w2 b);all_goals first|exact b|exact⟨rfl,b⟩|(rcases l.o _ _ b with⟨v,h⟩|⟨a,h⟩<;>cases h)
 exact⟨rfl,b⟩
theorem OS(b g o n cap:Nat)(d:∀e w,Q e w->(∃v,e=Rt v)\/(∃f,e=Pk f))(i:w.cell? (Aa r)=sT (Pz b))(j:w.cell? (Aa d0)=sT (Sl (sT (Ab g o)) n cap))(k:∀w',Lk (w.alloc (Cl #[Ha d1 l0] 161)) w'->Cp 261 (#[Pz b,Sl (sT (Ab g o)) n cap,.pointer k0,.pointer sV,Ha 262 #[Pz r,Pz w.heap.size]]) w' Q):Cp 260 #[.pointer k0,Ha d1 l0,Pz r,Pz d0] w Q:=by
 obtain⟨p,q⟩:=aN k d;have l:∀a:Obj,(w.alloc a).cell? (Aa r)=sT (Pz b):=λa=>by rw[<-i];exact aE (aC i) a
 have m:∀a:Obj,(w.alloc a).cell? (Aa d0)=sT (Sl (sT (Ab g o)) n cap):=λa=>by rw[<-j];exact aE (aC j) a
 clear k d;delta Cp;go_in;go_wp2_with (go_at_call 261;refine(p.o _ Lq).mo ?_;intro e w2 c);all_goals first|exact c|exact⟨rfl,c⟩|(rcases q.o _ _ c with⟨v,h⟩|⟨f,h⟩<;>cases h)
end
abbrev bp(b:Nat):Vu:=.pointer (sT ⟨b,0,sV⟩)
structure Gh where
 I:Nat->Option Obj
 J:List Nat
 E:List (Nat×Vu)
 B:List (Bs×Nat)
 P:Pm->Nat
 K:Nat->Nat
 mb:Nat
 sb:Nat
 cb:Nat
 mp:Nat
 W:Wd
 F:Nat->Prop
structure Gh.le (G H:Gh):Prop where
 I:∀{b:Nat} {o:Obj},G.I b=sT o->H.I b=sT o
 J:∀{i b:Nat},G.J[i]? =sT b->H.J[i]? =sT b
 E:∀{i:Nat} {p:Nat×Vu},G.E[i]? =sT p->H.E[i]? =sT p
 B:∀{s:Bs} {b:Nat},(s,b)∈G.B->(s,b)∈H.B
 P:H.P=G.P
 K:H.K=G.K
 mb:H.mb=G.mb
 sb:H.sb=G.sb
 cb:H.cb=G.cb
 mp:H.mp=G.mp
theorem Gh.le.refl(G:Gh):G.le G:=⟨id,id,id,id,rfl,rfl,rfl,rfl,rfl,rfl⟩
theorem Gh.le.t{G H L:Gh}(a:G.le H)(b:H.le L):G.le L:=⟨λh=>b.I (a.I h),λh=>b.J (a.J h),λh=>b.E (a.E h),λh=>b.B (a.B h),b.P.t a.P,b.K.t a.K,b.mb.t a.mb,b.sb.t a.sb,b.cb.t a.cb,b.mp.t a.mp⟩
abbrev Gh.mbox(G:Gh)(q:Nat):Prop:=G.I q=sT (Cl #[bp G.mb] 89)
theorem Gh.le.mbox{G H:Gh}(h:G.le H){q:Nat}(a:G.mbox q):H.mbox q:=by unfold Gh.mbox;rw[h.mb];exact h.I a
inductive NRep (G:Gh):Option Nat->Option Addr->Prop where
 |none:NRep G sV sV
 |some (i fb:Nat) (sv:Vu) (h:G.E[i]? =sT (fb,sv)):NRep G (sT i) (sT ⟨fb,0,sV⟩)
theorem NRep.mo{G H:Gh}(h:G.le H):∀{e p},NRep G e p->NRep H e p
 |_,_,.none=>.none
 |_,_,.some i fb sv a=>.some i fb sv (h.E a)
inductive Sh (G:Gh):List Nat->Option Addr->Prop where
 |nil (p:OA):Sh G [] p
 |cons (n:Nat) (sh:List Nat) (fb:Nat) (a:OA) (cap:Nat) (q:OA) (h:G.I fb=sT (Cl #[Sl a n cap,.pointer q] 324)) (hs:Sh G sh q):Sh G (n::sh) (sT ⟨fb,0,sV⟩)
theorem Sh.mo{G H:Gh}(h:G.le H):∀{sh p},Sh G sh p->Sh H sh p
 |_,_,.nil p=>.nil p
 |_,_,.cons n sh fb a cap q x y=>.cons n sh fb a cap q (h.I x) (Sh.mo h y)
inductive BRep (G:Gh):Nat->Bool->Vu->Prop where
 |num (n q1 q2:Nat) (h1:G.I q1=sT (Cl #[.int .i64 (n:Int)] 3)) (h2:G.mbox q2):BRep G n xN (.func (.func 253) #[] #[bp q1,bp q2])
 |rest (q:Nat) (h:G.mbox q):BRep G 1 xA (.func (.func 248) #[] #[bp q])
theorem BRep.mo{G H:Gh}(h:G.le H):∀{n r x},BRep G n r x->BRep H n r x
 |_,_,_,.num n q1 q2 a b=>.num n q1 q2 (h.I a) (h.mbox b)
 |_,_,_,.rest q a=>.rest q (h.mbox a)
structure Dl where
 k:Int
 n:Int
 tr:Bool
 tx:BA
 m:Int
 a:OA
 len:Nat
 cap:Nat
abbrev Dl.cells(e:Dl):Array Vu:=#[.int .i64 e.k,.int .i64 e.n,.bool e.tr,Sg e.tx,.int .i64 e.m,Sl e.a e.len e.cap]
mutual
inductive DRep (G:Gh):Dt->Dl->Prop where
 |num (e:Dl) (h:e.k=0) (h0:-9223372036854775808<=e.n) (h1:e.n<=9223372036854775807) (hc:e.len=0/\e.tr=xN/\e.tx=⟨#[]⟩):DRep G (.num e.n) e
 |bool (e:Dl) (h:e.k=1) (hc:e.len=0/\e.n=0/\e.tx=⟨#[]⟩):DRep G (.bool e.tr) e
 |str (e:Dl) (h:e.k=2) (hz:e.tx.size<=1000000000) (hc:e.len=0/\e.n=0/\e.tr=xN):DRep G (.str e.tx.data.toList) e
 |sym (e:Dl) (h:e.k=3) (hz:e.tx.size<=1000000000) (hc:e.len=0):DRep G (.sym e.tx.data.toList e.m) e
 |nil (e:Dl) (h:e.k=4) (hl:e.len=0):DRep G (.list []) e
 |list (e:Dl) (h:e.k=4) (l:List Dt) (es:List Dl) (g o:Nat) (arr:Array Vu) (hl:e.len=es.length) (hc:e.len<=e.cap) (hm:e.len<=30000) (ha:e.a=sT ⟨g,o,sV⟩) (hg:G.I g=sT (Cl arr 56))
   (hr:∀(i j:Nat) (x:Dl),es[i]? =sT x->j<6->arr[o+i*6+j]? =x.cells[j]?) (hs:DsRep G l es):DRep G (.list l) e
inductive DsRep (G:Gh):List Dt->List Dl->Prop where
 |nil:DsRep G [] []
 |cons (d:Dt) (r:List Dt) (e:Dl) (es:List Dl) (h:DRep G d e) (hs:DsRep G r es):DsRep G (d::r) (e::es)
end
mutual
theorem DRep.mo{G H:Gh}(h:G.le H):∀{d e},DRep G d e->DRep H d e
 |_,_,.num e a b c d=>.num e a b c d
 |_,_,.bool e a b=>.bool e a b
 |_,_,.str e a b c=>.str e a b c
 |_,_,.sym e a b c=>.sym e a b c
 |_,_,.nil e a b=>.nil e a b
 |_,_,.list e a l es g o arr hl hc hm ha hg hr hs=>.list e a l es g o arr hl hc hm ha (h.I hg) hr (DsRep.mo h hs)
theorem DsRep.mo{G H:Gh}(h:G.le H):∀{d e},DsRep G d e->DsRep H d e
 |_,_,.nil=>.nil
 |_,_,.cons d r e es a b=>.cons d r e es (DRep.mo h a) (DsRep.mo h b)
end
def RowI(G:Gh)(ty:Nat)(sl:Vu)(xs:List Vu):Prop:=∃g o cap arr,sl=Sl (sT ⟨g,o,sV⟩) xs.length cap/\G.I g=sT (Cl arr ty (0,0))/\xs.length<=cap/\xs.length<=1000000/\∀i x,xs[i]? =sT x->arr[o+i]? =sT x
theorem RowI.mo{G H:Gh}(h:G.le H){ty:Nat}{sl:Vu}{xs:List Vu}:RowI G ty sl xs->RowI H ty sl xs
 |⟨g,o,cap,arr,a,b,c,d,e⟩=>⟨g,o,cap,arr,a,h.I b,c,d,e⟩
inductive TRep (G:Gh):List Nat->Tg->Vu->Prop where
 |loc (sh:List Nat) (u i n q:Nat) (hs:sh[u]? =sT n) (hi:i<n) (hb:u<=1000000000/\n<=1000000000) (h:G.I q=sT (Cl #[.int .i64 (u:Int),.int .i64 (i:Int)] 263)):TRep G sh (.loc u i) (.func (.func 285) #[] #[bp q])
 |glo (sh:List Nat) (s:Bs) (q b:Nat) (h:G.I q=sT (Cl #[bp b] 185)) (hb:(s,b)∈G.B):TRep G sh (.glo s) (.func (.func 286) #[] #[bp q])
 |def' (sh:List Nat) (s:Bs) (q1 q2:Nat) (t:BA) (h1:G.mbox q1) (h2:G.I q2=sT (Cl #[Sg t] 9)) (ht:t.data.toList=s):TRep G sh (.def' s) (.func (.func 219) #[] #[bp q1,bp q2])
theorem TRep.mo{G H:Gh}(h:G.le H):∀{sh t x},TRep G sh t x->TRep H sh t x
 |_,_,_,.loc sh u i n q c d f a=>.loc sh u i n q c d f (h.I a)
 |_,_,_,.glo sh s q b a c=>.glo sh s q b (h.I a) (h.B c)
 |_,_,_,.def' sh s q1 q2 t a b c=>.def' sh s q1 q2 t (h.mbox a) (h.I b) c
mutual
inductive CRep (G:Gh):List Nat->Ex->Vu->Prop where
 |step (sh:List Nat) (e:Ex) (pm pc:Nat) (y:Vu) (h1:G.mbox pm) (h2:G.I pc=sT (Cl #[y] 144)) (h:IRep G sh e y):CRep G sh e (.func (.func 266) #[] #[bp pm,bp pc])
inductive IRep (G:Gh):List Nat->Ex->Vu->Prop where
 |quo (sh:List Nat) (d:Dt) (q1 q2 q3:Nat) (e:Dl) (h1:G.mbox q1) (h2:G.I q2=sT (Cl #[.int .i64 (aH d:Int)] 3)) (h3:G.I q3=sT (Cl e.cells 56)) (hd:DRep G d e):IRep G sh (.quo d) (.func (.func 237) #[] #[bp q1,bp q2,bp q3])
 |loc (sh:List Nat) (u i n q:Nat) (hs:sh[u]? =sT n) (hi:i<n) (hb:u<=1000000000/\n<=1000000000) (h:G.I q=sT (Cl #[.int .i64 (u:Int),.int .i64 (i:Int)] 263)):IRep G sh (.loc u i) (.func (.func 256) #[] #[bp q])
 |glo (sh:List Nat) (s:Bs) (q b:Nat) (h:G.I q=sT (Cl #[bp b] 185)) (hb:(s,b)∈G.B):IRep G sh (.glo s) (.func (.func 258) #[] #[bp q])
 |ite (sh:List Nat) (c t:Ex) (e:Option Ex) (q1 q2 q3:Nat) (xc xe xt:Vu) (h1:G.I q1=sT (Cl #[xc] 144)) (h2:G.I q2=sT (Cl #[xe] 144)) (h3:G.I q3=sT (Cl #[xt] 144))
   (hc:CRep G sh c xc) (ht:CRep G sh t xt) (he:ORep G sh e xe):IRep G sh (.ite c t e) (.func (.func 283) #[] #[bp q1,bp q2,bp q3])
 |setL (sh:List Nat) (u i:Nat) (a:Ex) (q1 q2:Nat) (xa xs:Vu) (h1:G.I q1=sT (Cl #[xa] 144)) (h2:G.I q2=sT (Cl #[xs] 281)) (ha:CRep G sh a xa) (hs:TRep G sh (.loc u i) xs):IRep G sh (.setL u i a) (.func (.func 245) #[] #[bp q1,bp q2])
 |setG (sh:List Nat) (s:Bs) (a:Ex) (q1 q2:Nat) (xa xs:Vu) (h1:G.I q1=sT (Cl #[xa] 144)) (h2:G.I q2=sT (Cl #[xs] 281)) (ha:CRep G sh a xa) (hs:TRep G sh (.glo s) xs):IRep G sh (.setG s a) (.func (.func 245) #[] #[bp q1,bp q2])
 |defG (sh:List Nat) (s:Bs) (a:Ex) (q1 q2:Nat) (xa xs:Vu) (h1:G.I q1=sT (Cl #[xa] 144)) (h2:G.I q2=sT (Cl #[xs] 281)) (ha:CRep G sh a xa) (hs:TRep G sh (.def' s) xs):IRep G sh (.defG s a) (.func (.func 245) #[] #[bp q1,bp q2])
 |lam (sh:List Nat) (n:Nat) (r:Bool) (l:List Ex) (q1 q2 q3:Nat) (xb xl:Vu) (h1:G.mbox q1) (h2:G.I q2=sT (Cl #[xl] 144)) (h3:G.I q3=sT (Cl #[xb] 305))
   (hl:SRep G (n::sh) l xl) (hb:BRep G n r xb):IRep G sh (.lam n r l) (.func (.func 267) #[] #[bp q1,bp q2,bp q3])
 |app (sh:List Nat) (f:Ex) (l:List Ex) (q1 q2:Nat) (sl:Vu) (xs:List Vu) (h1:G.mbox q1) (h2:G.I q2=sT (Cl #[sl] 294)) (hb:xs.length<=90000) (hr:RowI G 144 sl xs) (hx:XRep G sh (f::l) xs):IRep G sh (.app f l) (.func (.func 260) #[] #[bp q1,bp q2])
 |seq (sh:List Nat) (a:Ex) (l:List Ex) (y:Vu) (h:SRep G sh (a::l) y):IRep G sh (.seq a l) y
inductive ORep (G:Gh):List Nat->Option Ex->Vu->Prop where
 |none (sh:List Nat):ORep G sh sV (.func (.func 142) #[] #[])
 |some (sh:List Nat) (e:Ex) (x:Vu) (h:CRep G sh e x):ORep G sh (sT e) x
inductive SRep (G:Gh):List Nat->List Ex->Vu->Prop where
 |one (sh:List Nat) (e:Ex) (x:Vu) (h:CRep G sh e x):SRep G sh [e] x
 |cons (sh:List Nat) (e a:Ex) (r:List Ex) (q1 q2:Nat) (x y:Vu) (h1:G.I q1=sT (Cl #[x] 144)) (h2:G.I q2=sT (Cl #[y] 144)) (h:CRep G sh e x) (hs:SRep G sh (a::r) y):SRep G sh (e::a::r) (.func (.func 269) #[] #[bp q1,bp q2])
inductive XRep (G:Gh):List Nat->List Ex->List Vu->Prop where
 |nil (sh:List Nat):XRep G sh [] []
 |cons (sh:List Nat) (e:Ex) (r:List Ex) (x:Vu) (xs:List Vu) (h:CRep G sh e x) (hs:XRep G sh r xs):XRep G sh (e::r) (x::xs)
end
mutual
theorem CRep.mo{G H:Gh}(h:G.le H):∀{sh e x},CRep G sh e x->CRep H sh e x
 |_,_,_,.step sh e pm pc y a b c=>.step sh e pm pc y (h.mbox a) (h.I b) (IRep.mo h c)
theorem IRep.mo{G H:Gh}(h:G.le H):∀{sh e x},IRep G sh e x->IRep H sh e x
 |_,_,_,.quo sh d q1 q2 q3 e a b c k=>.quo sh d q1 q2 q3 e (h.mbox a) (h.I b) (h.I c) (k.mo h)
 |_,_,_,.loc sh u i n q c d f a=>.loc sh u i n q c d f (h.I a)
 |_,_,_,.glo sh s q b a c=>.glo sh s q b (h.I a) (h.B c)
 |_,_,_,.ite sh c t e q1 q2 q3 xc xe xt a b d hc ht he=>.ite sh c t e q1 q2 q3 xc xe xt (h.I a) (h.I b) (h.I d) (CRep.mo h hc) (CRep.mo h ht) (ORep.mo h he)
 |_,_,_,.setL sh u i a q1 q2 xa xs h1 h2 ha hs=>.setL sh u i a q1 q2 xa xs (h.I h1) (h.I h2) (CRep.mo h ha) (hs.mo h)
 |_,_,_,.setG sh s a q1 q2 xa xs h1 h2 ha hs=>.setG sh s a q1 q2 xa xs (h.I h1) (h.I h2) (CRep.mo h ha) (hs.mo h)
 |_,_,_,.defG sh s a q1 q2 xa xs h1 h2 ha hs=>.defG sh s a q1 q2 xa xs (h.I h1) (h.I h2) (CRep.mo h ha) (hs.mo h)
 |_,_,_,.lam sh n r l q1 q2 q3 xb xl h1 h2 h3 hl hb=>.lam sh n r l q1 q2 q3 xb xl (h.mbox h1) (h.I h2) (h.I h3) (SRep.mo h hl) (hb.mo h)
 |_,_,_,.app sh f l q1 q2 sl xs h1 h2 hb hr hx=>.app sh f l q1 q2 sl xs (h.mbox h1) (h.I h2) hb (hr.mo h) (XRep.mo h hx)
 |_,_,_,.seq sh a l y hs=>.seq sh a l y (SRep.mo h hs)
theorem ORep.mo{G H:Gh}(h:G.le H):∀{sh e x},ORep G sh e x->ORep H sh e x
 |_,_,_,.none sh=>.none sh
 |_,_,_,.some sh e x a=>.some sh e x (CRep.mo h a)
theorem SRep.mo{G H:Gh}(h:G.le H):∀{sh e x},SRep G sh e x->SRep H sh e x
 |_,_,_,.one sh e x a=>.one sh e x (CRep.mo h a)
 |_,_,_,.cons sh e a r q1 q2 x y h1 h2 hc hs=>.cons sh e a r q1 q2 x y (h.I h1) (h.I h2) (CRep.mo h hc) (SRep.mo h hs)
theorem XRep.mo{G H:Gh}(h:G.le H):∀{sh e x},XRep G sh e x->XRep H sh e x
 |_,_,_,.nil sh=>.nil sh
 |_,_,_,.cons sh e r x xs a b=>.cons sh e r x xs (CRep.mo h a) (XRep.mo h b)
end
def Sc.Pm.wrapF:Pm->Nat
 | .add=>155| .sub=>155| .mul=>155| .quot=>155| .rem=>155| .eql=>155| .lss=>155
 | .cons=>168| .car=>169| .cdr=>169| .nullQ=>166| .pairQ=>166| .intQ=>166| .symQ=>166| .strQ=>166| .boolQ=>166| .procQ=>166| .sealQ=>166
 | .not=>166| .eqQ=>168| .equalQ=>168| .list=>112| .length=>166| .append=>168| .strAppend=>172| .strLength=>174| .numStr=>175| .symStr=>176
 | .apply=>178| .callcc=>182| .wind=>184| .error=>166| .seal=>166|_=>0
def Sc.Pm.workF:Pm->Nat
 | .add=>86| .sub=>87| .mul=>88| .quot=>89| .rem=>90| .eql=>91| .lss=>92
 | .cons=>107| .car=>110| .cdr=>111| .nullQ=>158| .pairQ=>159| .intQ=>160| .symQ=>161| .strQ=>162| .boolQ=>163| .procQ=>164| .sealQ=>165
 | .not=>102| .eqQ=>104| .equalQ=>105| .length=>113| .append=>116| .strAppend=>119| .strLength=>123| .numStr=>125| .symStr=>127
 | .error=>131| .seal=>132|_=>0
def Sc.Pm.workT:Pm->Nat
 | .add=>150| .sub=>150| .mul=>150| .quot=>150| .rem=>150| .eql=>150| .lss=>150
 | .cons=>155| .car=>159| .cdr=>159| .nullQ=>153| .pairQ=>153| .intQ=>153| .symQ=>153| .strQ=>153| .boolQ=>153| .procQ=>153| .sealQ=>153
 | .not=>153| .eqQ=>155| .equalQ=>155| .length=>153| .append=>155| .strAppend=>172| .strLength=>174| .numStr=>176| .symStr=>178
 | .error=>153| .seal=>153|_=>0
def Sc.Pm.form:Pm->Nat
 | .cons=>1| .equalQ=>1| .length=>1| .append=>1| .strAppend=>1| .numStr=>1| .symStr=>1| .seal=>1
 | .list=>2| .apply=>2| .callcc=>2| .wind=>2
 | .write=>3| .readLine=>3| .tick=>3| .roll=>3| .unseal=>3
 |_=>0
inductive PRep (G:Gh):Pm->Vu->Prop where
 |bare (p:Pm) (q:Nat) (hf:p.form=0) (h:G.I q=sT (Cl #[.func (.func p.workF) #[] #[]] p.workT (0,0))):PRep G p (.func (.func p.wrapF) #[] #[bp q])
 |mach (p:Pm) (q r:Nat) (hf:p.form=1) (h:G.I q=sT (Cl #[.func (.func p.workF) #[] #[bp r]] p.workT (0,0))) (hr:G.mbox r):PRep G p (.func (.func p.wrapF) #[] #[bp q])
 |self (p:Pm) (q:Nat) (hf:p.form=2) (h:G.mbox q):PRep G p (.func (.func p.wrapF) #[] #[bp q])
theorem PRep.mo{G H:Gh}(h:G.le H):∀{p x},PRep G p x->PRep H p x
 |_,_,.bare p q a b=>.bare p q a (h.I b)
 |_,_,.mach p q r a b c=>.mach p q r a (h.I b) (h.mbox c)
 |_,_,.self p q a b=>.self p q a (h.mbox b)
mutual
inductive VRep (G:Gh):Vl->Vu->Prop where
 |num (n:Int) (h0:-9223372036854775808<=n) (h1:n<=9223372036854775807):VRep G (.num n) (If 80 (Ii n))
 |bool (b:Bool):VRep G (.bool b) (If 81 (.bool b))
 |str (t:BA) (hz:t.size<=1000000000):VRep G (.str t.data.toList) (If 82 (Sg t))
 |sym (t:BA) (hz:t.size<=1000000000):VRep G (.sym t.data.toList) (If 83 (Sg t))
 |nil:VRep G .nil (If 86 (Ag #[]))
 |none:VRep G .none (If 241 (Ag #[]))
 |pair (id b:Nat) (v u:Vl) (x y:Vu) (hj:G.J[id]? =sT b) (hb:G.I b=sT (Cl #[x,y] 109)) (h1:VRep G v x) (h2:VRep G u y):VRep G (.pair id v u) (If 103 (bp b))
 |proc (v:Vl) (b:Nat) (h:QRep G v b):VRep G v (If 132 (bp b))
 |seal (id b q:Nat) (v:Vl) (x:Vu) (hj:G.J[id]? =sT b) (hb:G.I b=sT (Cl #[.func (.func 133) #[] #[bp q]] 182)) (hq:G.I q=sT (Cl #[x] 63)) (h:VRep G v x):VRep G (.seal id v) (If 133 (bp b))
 |sealD (id b q1 q2:Nat) (d d':Dt) (e:Dl) (hj:G.J[id]? =sT b) (hb:G.I b=sT (Cl #[.func (.func 135) #[] #[bp q1,bp q2]] 182)) (h1:G.mbox q1) (h2:G.I q2=sT (Cl e.cells 56)) (h:DRep G d' e):VRep G (.sealD id d) (If 133 (bp b))
 |grant (n:Nat) (h:G.I (G.K n)=sT (Cl #[Ii (n:Int)] 189)):VRep G (.grant n) (If 134 (bp (G.K n)))
inductive QRep (G:Gh):Vl->Nat->Prop where
 |lam (sh:List Nat) (id n:Nat) (r:Bool) (l:List Ex) (env:Option Nat) (b q1 q2 q3:Nat) (xl xb:Vu) (pf:OA) (hj:G.J[id]? =sT b) (hb:G.I b=sT (Cl #[.func (.func 268) #[] #[bp q1,bp q2,bp q3]] 166))
   (h1:G.I q1=sT (Cl #[xl] 144)) (h2:G.I q2=sT (Cl #[xb] 305)) (h3:G.I q3=sT (Cl #[.pointer pf] 240)) (hl:SRep G (n::sh) l xl) (hx:BRep G n r xb) (he:NRep G env pf) (hs:Sh G sh pf):QRep G (.lam id n r l env) b
 |prim (p:Pm) (x:Vu) (hb:G.I (G.P p)=sT (Cl #[x] 166)) (hp:PRep G p x):QRep G (.prim p) (G.P p)
 |cont (id:Nat) (k:List Fr) (ws:List Wn) (b q1 q2 q3:Nat) (u:Vu) (wp:OA) (hj:G.J[id]? =sT b) (hb:G.I b=sT (Cl #[.func (.func 209) #[] #[bp q1,bp q2,bp q3]] 166))
   (h1:G.mbox q1) (h2:G.I q2=sT (Cl #[.pointer wp] 97)) (h3:G.I q3=sT (Cl #[u] 161)) (hk:FRep G k u) (hw:WRep G ws wp):QRep G (.cont id k ws) b
inductive FRep (G:Gh):List Fr->Vu->Prop where
 |nil (q:Nat) (h:G.mbox q):FRep G [] (.func (.func 137) #[] #[bp q])
 |ite (sh:List Nat) (t:Ex) (e:Option Ex) (env:Option Nat) (k:List Fr) (q1 q2 q3 q4:Nat) (xe xt u:Vu) (pf:OA) (h1:G.I q1=sT (Cl #[xe] 144)) (h2:G.I q2=sT (Cl #[.pointer pf] 240)) (h3:G.I q3=sT (Cl #[u] 161)) (h4:G.I q4=sT (Cl #[xt] 144))
   (ht:CRep G sh t xt) (he:ORep G sh e xe) (hn:NRep G env pf) (hs:Sh G sh pf) (hk:FRep G k u):FRep G (.ite t e env::k) (.func (.func 284) #[] #[bp q1,bp q2,bp q3,bp q4])
 |set (sh:List Nat) (t:Tg) (env:Option Nat) (k:List Fr) (q1 q2 q3:Nat) (xs u:Vu) (pf:OA) (h1:G.I q1=sT (Cl #[xs] 281)) (h2:G.I q2=sT (Cl #[.pointer pf] 240)) (h3:G.I q3=sT (Cl #[u] 161))
   (ht:TRep G sh t xs) (hn:NRep G env pf) (hs:Sh G sh pf) (hk:FRep G k u):FRep G (.set t env::k) (.func (.func 246) #[] #[bp q1,bp q2,bp q3])
 |body (sh:List Nat) (l:List Ex) (env:Option Nat) (k:List Fr) (q1 q2 q3:Nat) (xl u:Vu) (pf:OA) (h1:G.I q1=sT (Cl #[xl] 144)) (h2:G.I q2=sT (Cl #[.pointer pf] 240)) (h3:G.I q3=sT (Cl #[u] 161))
   (hl:SRep G sh l xl) (hn:NRep G env pf) (hs:Sh G sh pf) (hk:FRep G k u):FRep G (.body l env::k) (.func (.func 270) #[] #[bp q1,bp q2,bp q3])
 |app (sh:List Nat) (vs:List Vl) (l:List Ex) (env:Option Nat) (k:List Fr) (q1 q2 q3 q4 q5 q6 q7:Nat) (sl x0 u:Vu) (xs:List Vu) (pf pd:OA) (h1:G.mbox q1) (h2:G.I q2=sT (Cl #[sl] 294)) (h3:G.I q3=sT (Cl #[.pointer pf] 240))
   (h4:G.I q4=sT (Cl #[.pointer pd] 333)) (h5:G.I q5=sT (Cl #[.func (.func 262) #[] #[bp q6,bp q7]] 315)) (h6:G.mbox q6) (h7:G.I q7=sT (Cl #[u] 161))
   (hb:vs.length+xs.length<=90000) (hr:RowI G 144 sl (x0::xs)) (hx:XRep G sh l xs) (hc:HRep G vs.reverse pd) (hn:NRep G env pf) (hs:Sh G sh pf) (hk:FRep G k u):FRep G (.app vs l env::k) (.func (.func 281) #[] #[bp q1,bp q2,bp q3,bp q4,bp q5])
 |wind1 (a b c:Vl) (k:List Fr) (q1 q2 q3 q4 q5 ba bb bc:Nat) (u:Vu) (h1:G.mbox q1) (h2:G.I q2=sT (Cl #[bp ba] 132)) (h3:G.I q3=sT (Cl #[bp bc] 132)) (h4:G.I q4=sT (Cl #[bp bb] 132)) (h5:G.I q5=sT (Cl #[u] 161))
   (ha:QRep G a ba) (hb:QRep G b bb) (hc:QRep G c bc) (hk:FRep G k u):FRep G (.wind1 a b c::k) (.func (.func 212) #[] #[bp q1,bp q2,bp q3,bp q4,bp q5])
 |wind2 (c:Vl) (ws:List Wn) (k:List Fr) (q1 q2 q3 q4 bc:Nat) (u:Vu) (wp:OA) (h1:G.I q1=sT (Cl #[.pointer wp] 97)) (h2:G.mbox q2) (h3:G.I q3=sT (Cl #[bp bc] 132)) (h4:G.I q4=sT (Cl #[u] 161))
   (hw:WRep G ws wp) (hc:QRep G c bc) (hk:FRep G k u):FRep G (.wind2 c ws::k) (.func (.func 213) #[] #[bp q1,bp q2,bp q3,bp q4])
 |wind3 (v:Vl) (k:List Fr) (q1 q2:Nat) (x u:Vu) (h1:G.I q1=sT (Cl #[u] 161)) (h2:G.I q2=sT (Cl #[x] 63)) (hv:VRep G v x) (hk:FRep G k u):FRep G (.wind3 v::k) (.func (.func 214) #[] #[bp q1,bp q2])
 |back (ws:List Wn) (v:Vl) (k r:List Fr) (q1 q2 q3 q4 q5:Nat) (sl x u:Vu) (wp:OA) (h1:G.mbox q1) (h2:G.I q2=sT (Cl #[.pointer wp] 97)) (h3:G.I q3=sT (Cl #[.func (.func 211) #[] #[bp q4,bp q5]] 163))
   (h4:G.I q4=sT (Cl #[u] 161)) (h5:G.I q5=sT (Cl #[sl] 84)) (hr:RowI G 63 sl [x]) (hv:VRep G v x) (hw:WRep G ws wp) (hk:FRep G k u):FRep G (.back ws v k::r) (.func (.func 241) #[] #[bp q1,bp q2,bp q3])
 |into (now ws:List Wn) (v:Vl) (k r:List Fr) (q1 q2 q3:Nat) (y:Vu) (np:OA) (h1:G.I q1=sT (Cl #[.pointer np] 97)) (h2:G.mbox q2) (h3:G.I q3=sT (Cl #[y] 160))
   (hn:WRep G now np) (hy:FRep G (.back ws v k::r) y):FRep G (.into now ws v k::r) (.func (.func 243) #[] #[bp q1,bp q2,bp q3])
inductive HRep (G:Gh):List Vl->Option Addr->Prop where
 |nil:HRep G [] sV
 |cons (v:Vl) (r:List Vl) (b:Nat) (x:Vu) (pd:OA) (hb:G.I b=sT (Cl #[x,.pointer pd,Ii ((r.length:Int)+1)] 345)) (hv:VRep G v x) (hr:HRep G r pd):HRep G (v::r) (sT (Aa b))
inductive WRep (G:Gh):List Wn->Option Addr->Prop where
 |nil:WRep G [] sV
 |cons (id:Nat) (a c:Vl) (r:List Wn) (b ba bc:Nat) (pd:OA) (hj:G.J[id]? =sT b) (hb:G.I b=sT (Cl #[bp ba,bp bc,.pointer pd] 261)) (ha:QRep G a ba) (hc:QRep G c bc) (hr:WRep G r pd):WRep G (.mk id a c::r) (sT (Aa b))
end
mutual
theorem VRep.mo{G H:Gh}(h:G.le H):∀{v x},VRep G v x->VRep H v x
 |_,_,.num n a b=>.num n a b
 |_,_,.bool b=>.bool b
 |_,_,.str t z=>.str t z
 |_,_,.sym t z=>.sym t z
 |_,_,.nil=>.nil
 |_,_,.none=>.none
 |_,_,.pair id b v u x y hj hb h1 h2=>.pair id b v u x y (h.J hj) (h.I hb) (VRep.mo h h1) (VRep.mo h h2)
 |_,_,.proc v b a=>.proc v b (QRep.mo h a)
 |_,_,.seal id b q v x hj hb hq a=>.seal id b q v x (h.J hj) (h.I hb) (h.I hq) (VRep.mo h a)
 |_,_,.sealD id b q1 q2 d d' e hj hb h1 h2 a=>.sealD id b q1 q2 d d' e (h.J hj) (h.I hb) (h.mbox h1) (h.I h2) (a.mo h)
 |_,_,.grant n a=>by have:=VRep.grant (G:=H) n (by rw[h.K];exact h.I a);rw[h.K]at this;exact this
theorem QRep.mo{G H:Gh}(h:G.le H):∀{v x},QRep G v x->QRep H v x
 |_,_,.lam sh id n r l env b q1 q2 q3 xl xb pf hj hb h1 h2 h3 hl hx he hs=>.lam sh id n r l env b q1 q2 q3 xl xb pf (h.J hj) (h.I hb) (h.I h1) (h.I h2) (h.I h3) (hl.mo h) (hx.mo h) (he.mo h) (hs.mo h)
 |_,_,.prim p x hb hp=>by have:=QRep.prim (G:=H) p x (by rw[h.P];exact h.I hb) (hp.mo h);rw[h.P]at this;exact this
 |_,_,.cont id k ws b q1 q2 q3 u wp hj hb h1 h2 h3 hk hw=>.cont id k ws b q1 q2 q3 u wp (h.J hj) (h.I hb) (h.mbox h1) (h.I h2) (h.I h3) (FRep.mo h hk) (WRep.mo h hw)
theorem FRep.mo{G H:Gh}(h:G.le H):∀{v x},FRep G v x->FRep H v x
 |_,_,.nil q a=>.nil q (h.mbox a)
 |_,_,.ite sh t e env k q1 q2 q3 q4 xe xt u pf h1 h2 h3 h4 ht he hn hs hk=>.ite sh t e env k q1 q2 q3 q4 xe xt u pf (h.I h1) (h.I h2) (h.I h3) (h.I h4) (ht.mo h) (he.mo h) (hn.mo h) (hs.mo h) (FRep.mo h hk)
 |_,_,.set sh t env k q1 q2 q3 xs u pf h1 h2 h3 ht hn hs hk=>.set sh t env k q1 q2 q3 xs u pf (h.I h1) (h.I h2) (h.I h3) (ht.mo h) (hn.mo h) (hs.mo h) (FRep.mo h hk)
 |_,_,.body sh l env k q1 q2 q3 xl u pf h1 h2 h3 hl hn hs hk=>.body sh l env k q1 q2 q3 xl u pf (h.I h1) (h.I h2) (h.I h3) (hl.mo h) (hn.mo h) (hs.mo h) (FRep.mo h hk)
 |_,_,.app sh vs l env k q1 q2 q3 q4 q5 q6 q7 sl x0 u xs pf pd h1 h2 h3 h4 h5 h6 h7 hb hr hx hc hn hs hk=>.app sh vs l env k q1 q2 q3 q4 q5 q6 q7 sl x0 u xs pf pd (h.mbox h1) (h.I h2) (h.I h3) (h.I h4) (h.I h5) (h.mbox h6) (h.I h7) hb (hr.mo h) (hx.mo h) (HRep.mo h hc) (hn.mo h) (hs.mo h) (FRep.mo h hk)
 |_,_,.wind1 a b c k q1 q2 q3 q4 q5 ba bb bc u h1 h2 h3 h4 h5 ha hb hc hk=>.wind1 a b c k q1 q2 q3 q4 q5 ba bb bc u (h.mbox h1) (h.I h2) (h.I h3) (h.I h4) (h.I h5) (QRep.mo h ha) (QRep.mo h hb) (QRep.mo h hc) (FRep.mo h hk)
 |_,_,.wind2 c ws k q1 q2 q3 q4 bc u wp h1 h2 h3 h4 hw hc hk=>.wind2 c ws k q1 q2 q3 q4 bc u wp (h.I h1) (h.mbox h2) (h.I h3) (h.I h4) (WRep.mo h hw) (QRep.mo h hc) (FRep.mo h hk)
 |_,_,.wind3 v k q1 q2 x u h1 h2 hv hk=>.wind3 v k q1 q2 x u (h.I h1) (h.I h2) (VRep.mo h hv) (FRep.mo h hk)
 |_,_,.back ws v k r q1 q2 q3 q4 q5 sl x u wp h1 h2 h3 h4 h5 hr hv hw hk=>.back ws v k r q1 q2 q3 q4 q5 sl x u wp (h.mbox h1) (h.I h2) (h.I h3) (h.I h4) (h.I h5) (hr.mo h) (VRep.mo h hv) (WRep.mo h hw) (FRep.mo h hk)
 |_,_,.into now ws v k r q1 q2 q3 y np h1 h2 h3 hn hy=>.into now ws v k r q1 q2 q3 y np (h.I h1) (h.mbox h2) (h.I h3) (WRep.mo h hn) (FRep.mo h hy)
theorem HRep.mo{G H:Gh}(h:G.le H):∀{v x},HRep G v x->HRep H v x
 |_,_,.nil=>.nil
 |_,_,.cons v r b x pd hb hv hr=>.cons v r b x pd (h.I hb) (VRep.mo h hv) (HRep.mo h hr)
theorem WRep.mo{G H:Gh}(h:G.le H):∀{v x},WRep G v x->WRep H v x
 |_,_,.nil=>.nil
 |_,_,.cons id a c r b ba bc pd hj hb ha hc hr=>.cons id a c r b ba bc pd (h.J hj) (h.I hb) (QRep.mo h ha) (QRep.mo h hc) (WRep.mo h hr)
end
end
section
open Go.RowKit Go.Shelf
open Sc
open _root_.Array renaming ext_getElem?→WH,getElem?_eq_none→VM,getElem?_modify→UX
open Go.Instr renaming checkKey→WR,findKey→WV,findNow→WS,lookup→WU,mapUpdate→WW,sliceBounds→VZ,slice→VY,typeAssert→VP
open _root_.List renaming drop_eq_getElem_cons→WL,drop_succ_cons→WF,drop_zero→WG,exists_cons_of_ne_nil→VQ,getElem?_modify→WM,getElem?_reverse→WP,getElem_inj→VW,length_replicate→WJ,length→WN,map_append→VK,map_cons→WT,mem_append_left→WX,mem_append→VS,mem_cons→VR,mem_iff_getElem→VV,mem_map→VT,mem_of_getElem?→YP,nodup_append→VX,nodup_cons→VU,replicate→WI,take_succ_cons→WB,take_zero→WD
open _root_.Nat renaming lt_or_ge→VH
open Go.Op renaming equalIn→VN
open _root_.Option renaming none→US
open Go.World renaming cell?→UT,frozen?→UU,setCell→UV
variable {A C:Int}{G H:Gh}{K:Gh->Mc->Wd->Prop}{Q:En->Wd->Prop}{S:Sub}{W w w':Wd}{Y Z x:Vu}{b d0 d1 d2 d3 d4 g i j k n o q r sc u:Nat}{e:En}{k0 k1 p:OA}{l:List Ex}{l0:Array Vu}{m:Mc}{s:Bs}{sh:List Nat}{xs:List Vu}
def Eg(k:Nat):Prop:=∀args w,(callFunc k args).run prog w=.ok (.enter k args) w
theorem aK{a:Func}(b:prog.funcs[k]? =sT a)(c:(a.name== "runtime.NumGoroutine")=xN)(d:a.body.isNone=xN):Eg k:=by
 intro args w;have f:¬a.name= "runtime.NumGoroutine" :=by simpa using c
 have g:¬a.body=sV:=by intro e;simp[e]at d
 simp[callFunc,b,f,g]
def fU:Vu->List Nat
 | .slice (sT a) (_+1) _=>[a.block]
 |_=>[]
def Gh.rows(G:Gh):List Nat:=G.E.flatMap λp=>fU p.2
def Gh.mut(G:Gh):List Nat:=G.mb::G.sb::G.cb::G.mp::(G.B.map (·.2)++G.rows)
def Gh.add(G:Gh)(b:Nat)(o:Obj):Gh:={G with I:=λc=>if c=b then sT o else G.I c}
def ERow(G:Gh)(h:Array Obj)(sv:Vu)(vs:List Vl):Prop:=
 (vs=[]/\∃a cap,sv=Sl a 0 cap)\/
 ∃g o cap arr,sv=Sl (sT (Ab g o)) vs.length cap/\vs≠[]/\h[g]? =sT (Cl arr 63)/\∀i v,vs[i]? =sT v->∃x,arr[o+i]? =sT x/\VRep G v x
def GVal(G:Gh)(o:Option Vl)(x:Vu):Prop:=match o with
 |none=>x=.nilIface
 |some v=>VRep G v x
structure Inv (G:Gh) (S:Sub) (m:Mc) (w:Wd):Prop where
 imm:∀{b:Nat} {o:Obj},G.I b=sT o->w.heap[b]? =sT o
 nd:G.mut.Nodup
 mi:∀{b:Nat},b∈G.mut->G.I b=sV
 ml:∀{b:Nat},b∈G.mut->b<w.heap.size
 st:Mt G.sb m.steps S.fuel 10 w
 ce:Mt G.cb m.cells S.quota 11 w
 sl:(m.steps:Int)<=S.fuel/\S.fuel<=20000
 cl:(m.cells:Int)<=S.quota/\S.quota<=5000
 ma:∃gv wp,w.heap[G.mb]? =sT (Cl #[bp G.sb,bp G.cb,.map (sT G.mp),gv,.pointer wp] 99)/\WRep G m.wnd wp
 mp:∃es clock,w.heap[G.mp]? =sT (.map es clock)/\es.toList.map (λe=>(e.key,e.val))=G.B.map (λp=>(Value.string ⟨p.1.toArray⟩,bp p.2))
 gl:∀{s:Bs} {b:Nat},(s,b)∈G.B->∃x,w.heap[b]? =sT (Cl #[x] 184)/\GVal G (lookup s m.glob) x
 gd:∀{s:Bs} {v:Vl},lookup s m.glob=sT v->∃b,(s,b)∈G.B
 gk:(G.B.map (·.1)).Nodup
 en:∀{i:Nat} {vs:List Vl} {e:Option Nat},m.envs[i]? =sT (vs,e)->∃fb sv pf,G.E[i]? =sT (fb,sv)/\G.I fb=sT (Cl #[sv,.pointer pf] 324)/\NRep G e pf/\ERow G w.heap sv vs
 el:G.E.length=m.envs.length
 jl:G.J.length=m.ids
 jn:G.J.Nodup
 ji:∀{b:Nat},b∈G.J->∃o,G.I b=sT o
 fo:w.os=G.W.os/\w.tape=G.W.tape/\w.output=G.W.output
 ff:∀{b:Nat},G.F b->w.heap[b]? =G.W.heap[b]?/\b<w.heap.size
 fm:∀{b:Nat},b∈G.mut->¬G.F b
 fi:∀{b:Nat},G.F b->G.I b=sV
theorem Inv.lk(h:Lk w w')(i:Inv G S m w):Inv G S m w':=by have e:=h.heap;obtain⟨t,x,y,u,g,j,z,A,v,a,b,k,l,c,n,o,p,q,d,f,r,s⟩:=i;unfold Mt at g j;rw[<-e]at t u g j v a b c f;rw[<-h.os,<-h.tape,<-h.output]at d;exact⟨t,x,y,u,g,j,z,A,v,a,b,k,l,c,n,o,p,q,d,f,r,s⟩
theorem Gh.le_add{o:Obj}(h:G.I b=sV):G.le (G.add b o):=⟨fun {c x} a=>by show(if c=b then sT o else G.I c)=sT x;by_cases e:c=b;subst e;rw[h]at a;cases a;rw[if_neg e];exact a,id,id,id,rfl,rfl,rfl,rfl,rfl,rfl⟩
theorem Gh.add_at(G:Gh)(b:Nat)(o:Obj):(G.add b o).I b=sT o:=if_pos rfl
theorem ERow.mo{G H:Gh}(h:G.le H){a b:Array Obj}{c:Vu}{vs:List Vl}(d:∀g o n cap,c=Sl (sT (Ab g o)) (n+1) cap->b[g]? =a[g]?):ERow G a c vs->ERow H b c vs
 |.inl x=>.inl x
 |.inr ⟨g,o,cap,arr,h1,h2,h3,h4⟩=>.inr ⟨g,o,cap,arr,h1,h2,by obtain⟨v,r,rfl⟩:=VQ h2;rw[d g o r.length cap (by rw[h1];rfl)];exact h3,λi v e=>by obtain⟨x,e1,e2⟩:=h4 i v e;exact⟨x,e1,e2.mo h⟩⟩
theorem GVal.mo{G H:Gh}(h:G.le H){o:Option Vl}{x:Vu}(a:GVal G o x):GVal H o x:=by cases o with|none=>exact a|some v=>exact VRep.mo h a
theorem oR{cap:Nat}(h:G.E[i]? =sT (r,Sl (sT (Ab g o)) (n+1) cap)):g∈G.rows:=List.mem_flatMap.2 ⟨_,YP h,List.mem_singleton.2 rfl⟩
theorem Inv.grow(i:Inv G S m w)(p:Bt w w')(h:G.le H)(u:H.J=G.J)(y:H.E=G.E)(q:H.B=G.B)(A:H.W=G.W)(hF:H.F=G.F)(hI:∀{b o},H.I b=sT o->G.I b=sT o\/(w.heap.size<=b/\w'.heap[b]? =sT o)):Inv H S m w':=by
 have t:H.mut=G.mut:=by simp only[Gh.mut,Gh.rows,h.mb,h.sb,h.cb,h.mp,y,q]
 have keep:∀{b:Nat},b∈G.mut->w'.heap[b]? =w.heap[b]?:=λf=>p.block _ (i.ml f);have m1:G.mb∈G.mut:=by simp[Gh.mut]
 have m2:G.sb∈G.mut:=by simp[Gh.mut]
 have m3:G.cb∈G.mut:=by simp[Gh.mut]
 have m4:G.mp∈G.mut:=by simp[Gh.mut]
 refine⟨?_,by rw[t];exact i.nd,?_,?_,?_,?_,i.sl,i.cl,?_,?_,?_,?_,by rw[q];exact i.gk,?_,by rw[y];exact i.el,by rw[u];exact i.jl,by rw[u];exact i.jn,?_,?_,?_,?_,?_⟩;intro b o f;rcases hI f with f|⟨_,f⟩;have:=i.imm f;rw[p.block b (eE.1 this).1];exact this;exact f;intro b f;rw[t]at f;rcases hc:H.I b with _|o;rfl;rcases hI hc with l|⟨l,_⟩;rw[i.mi f]at l;cases l;have:=i.ml f;omega;intro b f;rw[t]at f;exact eW (i.ml f) p.size;unfold Mt;rw[h.sb,keep m2];exact i.st;unfold Mt;rw[h.cb,keep m3];exact i.ce;obtain⟨D,K,a,b⟩:=i.ma;exact⟨D,K,by rw[h.mb,h.sb,h.cb,h.mp,keep m1];exact a,b.mo h⟩;obtain⟨es,c,a,b⟩:=i.mp;exact⟨es,c,by rw[h.mp,keep m4];exact a,by rw[q];exact b⟩;intro s b r;rw[q]at r;obtain⟨x,a,k⟩:=i.gl r;refine⟨x,?_,k.mo h⟩;rw[keep (by simp only[Gh.mut,VR,VS,VT];exact .inr (.inr (.inr (.inr (.inl ⟨_,r,rfl⟩)))))];exact a;intro s v r;rw[q];exact i.gd r;intro j vs e L;obtain⟨M,N,O,a,b,c,d⟩:=i.en L;refine⟨M,N,O,by rw[y];exact a,h.I b,c.mo h,d.mo h λg o n cap z=>?_⟩;subst z;exact keep (by simp only[Gh.mut,VR,VS];exact .inr (.inr (.inr (.inr (.inr (oR a))))));intro b f;rw[u]at f;obtain⟨o,P⟩:=i.ji f;exact⟨o,h.I P⟩;rw[A,p.os,p.tape,p.output];exact i.fo;intro b f;rw[hF]at f;obtain⟨l,C⟩:=i.ff f;rw[A,p.block b C];exact⟨l,eW C p.size⟩;intro b f;rw[t]at f;rw[hF];exact i.fm f;intro b f;rw[hF]at f;rcases hc:H.I b with _|o;rfl;rcases hI hc with l|⟨l,_⟩;rw[i.fi f]at l;cases l;have:=(i.ff f).2;omega
theorem Inv.fresh(i:Inv G S m w)(a:w.heap.size<=b):G.I b=sV:=by rcases h:G.I b with _|o;rfl;have:=(eE.1 (i.imm h)).1;omega
theorem Inv.alloc(i:Inv G S m w)(o:Obj):Inv (G.add w.heap.size o) S m (w.alloc o):=i.grow ((Below.refl _ _).alloc (eR _) _) (Gh.le_add (i.fresh (eR _))) rfl rfl rfl rfl rfl fun {b x} a=>by by_cases e:b=w.heap.size;subst e;rw[Gh.add_at]at a;cases a;exact .inr ⟨eR _,eN _ _⟩;left;have:(if b=w.heap.size then sT o else G.I b)=sT x:=a;rw[if_neg e]at this;exact this
theorem Inv.below(i:Inv G S m w)(a:Bt w w'):Inv G S m w':=i.grow a (Gh.le.refl _) rfl rfl rfl rfl rfl .inl
theorem Inv.cell(i:Inv G S m w){c:Array Vu}{t:Nat}(h:G.I b=sT (Cl c t (0,0)))(o:Nat):w.cell? ⟨b,o,US⟩=c[o]?:=by simp[UT,i.imm h]
section
section
variable {G:Gh} {S:Sub} {m:Mc} {w:Wd}
theorem Inv.m1(_:Inv G S m w):G.mb∈G.mut:=by simp[Gh.mut]
theorem Inv.m2(_:Inv G S m w):G.sb∈G.mut:=by simp[Gh.mut]
theorem Inv.m3(_:Inv G S m w):G.cb∈G.mut:=by simp[Gh.mut]
theorem Inv.m4(_:Inv G S m w):G.mp∈G.mut:=by simp[Gh.mut]
theorem Inv.m5(_:Inv G S m w)(h:(s,b)∈G.B):b∈G.mut:=by simp only[Gh.mut,VR,VS,VT];exact .inr (.inr (.inr (.inr (.inl ⟨_,h,rfl⟩))))
theorem Inv.m6(_:Inv G S m w){cap:Nat}(h:G.E[i]? =sT (r,Sl (sT ⟨g,o,US⟩) (n+1) cap)):g∈G.mut:=by simp only[Gh.mut,VR,VS];exact .inr (.inr (.inr (.inr (.inr (oR h)))))
theorem Inv.sb_mb(i:Inv G S m w):G.sb≠G.mb:=by have:=i.nd;simp only[Gh.mut,VU,VR,not_or]at this;exact λe=>this.1.1 e.symm
theorem Inv.cb_mb(i:Inv G S m w):G.cb≠G.mb:=by have:=i.nd;simp only[Gh.mut,VU,VR,not_or]at this;exact λe=>this.1.2.1 e.symm
theorem Inv.mp_mb(i:Inv G S m w):G.mp≠G.mb:=by have:=i.nd;simp only[Gh.mut,VU,VR,not_or]at this;exact λe=>this.1.2.2.1 e.symm
theorem Inv.cb_sb(i:Inv G S m w):G.cb≠G.sb:=by have:=i.nd;simp only[Gh.mut,VU,VR,not_or]at this;exact λe=>this.2.1.1 e.symm
theorem Inv.mp_sb(i:Inv G S m w):G.mp≠G.sb:=by have:=i.nd;simp only[Gh.mut,VU,VR,not_or]at this;exact λe=>this.2.1.2.1 e.symm
theorem Inv.mp_cb(i:Inv G S m w):G.mp≠G.cb:=by have:=i.nd;simp only[Gh.mut,VU,VR,not_or]at this;exact λe=>this.2.2.1.1 e.symm
theorem Inv.late(i:Inv G S m w)(h:b∈G.B.map (·.2)++G.rows):b≠G.mb/\b≠G.sb/\b≠G.cb/\b≠G.mp:=by have:=i.nd;simp only[Gh.mut,VU,VR,not_or]at this;exact⟨λe=>this.1.2.2.2 (e▸h),λe=>this.2.1.2.2 (e▸h),λe=>this.2.2.1.2 (e▸h),λe=>this.2.2.2.1 (e▸h)⟩
theorem Inv.lateB(i:Inv G S m w)(h:(s,b)∈G.B):b≠G.mb/\b≠G.sb/\b≠G.cb/\b≠G.mp:=i.late (WX _ (VT.2 ⟨_,h,rfl⟩))
theorem Inv.lateE(i:Inv G S m w){cap:Nat}(h:G.E[j]? =sT (r,Sl (sT ⟨g,o,US⟩) (n+1) cap)):g≠G.mb/\g≠G.sb/\g≠G.cb/\g≠G.mp:=i.late (List.mem_append_right _ (oR h))
theorem Inv.nd2(i:Inv G S m w):(G.B.map (·.2)++G.rows).Nodup:=by have:=i.nd;simp only[Gh.mut,VU]at this;exact this.2.2.2.2
theorem Inv.turn{M:Mc}(i:Inv G S m w)(j:b∈G.mut)(k:∀c,c≠b->w'.heap[c]? =w.heap[c]?)(l:w'.heap.size=w.heap.size)(f:w'.os=w.os/\w'.tape=w.tape/\w'.output=w.output)(st:Mt G.sb M.steps S.fuel 10 w')(t:Mt G.cb M.cells S.quota 11 w')(sl:(M.steps:Int)<=S.fuel)(u:(M.cells:Int)<=S.quota)(y:∃z n,w'.heap[G.mb]? =sT (Cl #[bp G.sb,bp G.cb,.map (sT G.mp),z,.pointer n] 99)/\WRep G M.wnd n)(A:∃es a,w'.heap[G.mp]? =sT (.map es a)/\es.toList.map (λe=>(e.key,e.val))=G.B.map (λp=>(Value.string ⟨p.1.toArray⟩,bp p.2)))(C:∀{s:Bs} {b:Nat},(s,b)∈G.B->∃x,w'.heap[b]? =sT (Cl #[x] 184)/\GVal G (lookup s M.glob) x)(D:∀{s:Bs} {v:Vl},lookup s M.glob=sT v->∃b,(s,b)∈G.B)(F:∀{i:Nat} {vs:List Vl} {e:Option Nat},M.envs[i]? =sT (vs,e)->∃q g r,G.E[i]? =sT (q,g)/\G.I q=sT (Cl #[g,.pointer r] 324)/\NRep G e r/\ERow G w'.heap g vs)(H:G.E.length=M.envs.length)(K:G.J.length=M.ids):Inv G S M w':=⟨fun {c o} d=>by rw[k c (by intro e;subst e;rw[i.mi j]at d;cases d)];exact i.imm d,i.nd,i.mi,λh=>by rw[l];exact i.ml h,st,t,⟨sl,i.sl.2⟩,⟨u,i.cl.2⟩,y,A,C,D,i.gk,F,H,K,i.jn,i.ji,by rw[f.1,f.2.1,f.2.2];exact i.fo,fun {c} d=>by rw[k c (λe=>i.fm j (e▸d)),l];exact i.ff d,i.fm,i.fi⟩
theorem aG{a:Addr}{v:Vu}(c:Nat)(h:c≠a.block):(w.setCell a v).heap[c]? =w.heap[c]?:=Below.heap_setCell _ _ _ _ h
theorem aL{a:Addr}{v:Vu}:(w.setCell a v).heap.size=w.heap.size:=by simp[UV]
theorem Mt.set{t:Int}(h:Mt b t A C w)(a:Int):Mt b a A C (w.setCell ⟨b,0,US⟩ (Ii a)):=by unfold Mt at*;simp[UV,UX,h]
theorem Mt.keep{t:Int}(h:Mt b t A C w)(e:w'.heap[b]? =w.heap[b]?):Mt b t A C w':=by unfold Mt at*;rw[e];exact h
theorem Inv.glKeep(i:Inv G S m w)(a:∀c,c≠b->w'.heap[c]? =w.heap[c]?)(d:∀s c,(s,c)∈G.B->c≠b):∀{s:Bs} {c:Nat},(s,c)∈G.B->∃x,w'.heap[c]? =sT (Cl #[x] 184)/\GVal G (lookup s m.glob) x:=fun {s c} h=>by rw[a c (d s c h)];exact i.gl h
theorem Inv.enKeep(i:Inv G S m w)(l:∀c,c≠b->w'.heap[c]? =w.heap[c]?)(p:∀j a g o n cap:Nat,G.E[j]? =sT (a,Value.slice (sT ⟨g,o,US⟩) (n+1) cap)->g≠b):∀{j:Nat} {vs:List Vl} {e:Option Nat},m.envs[j]? =sT (vs,e)->∃a d f,G.E[j]? =sT (a,d)/\G.I a=sT (Cl #[d,.pointer f] 324)/\NRep G e f/\ERow G w'.heap d vs:=fun {j vs e} h=>by obtain⟨a,d,f,k,q,r,s⟩:=i.en h;exact⟨a,d,f,k,q,r,s.mo (Gh.le.refl _) λg o n cap e=>l g (p j a g o n cap (by rw[k,e]))⟩
theorem Inv.steps(i:Inv G S m w)(n:Nat)(h:(n:Int)<=S.fuel):Inv G S {m with steps:=n} (w.setCell ⟨G.sb,0,US⟩ (Ii (n:Int))):=i.turn i.m2 (λc b=>aG c b) aL ⟨rfl,rfl,rfl⟩ (i.st.set _) (i.ce.keep (aG _ i.cb_sb)) h i.cl.1 (by rw[aG (a:=⟨G.sb,0,US⟩) _ (Ne.symm i.sb_mb)];exact i.ma) (by rw[aG (a:=⟨G.sb,0,US⟩) _ i.mp_sb];exact i.mp) (i.glKeep (λc b=>aG c b) λs c h=>(i.lateB h).2.1) i.gd (i.enKeep (λc b=>aG c b) λj d g o n cap h=>(i.lateE h).2.1) i.el i.jl
theorem Inv.cells(i:Inv G S m w)(n:Nat)(h:(n:Int)<=S.quota):Inv G S {m with cells:=n} (w.setCell ⟨G.cb,0,US⟩ (Ii (n:Int))):=i.turn i.m3 (λc b=>aG c b) aL ⟨rfl,rfl,rfl⟩ (i.st.keep (aG _ (Ne.symm i.cb_sb))) (i.ce.set _) i.sl.1 h (by rw[aG (a:=⟨G.cb,0,US⟩) _ (Ne.symm i.cb_mb)];exact i.ma) (by rw[aG (a:=⟨G.cb,0,US⟩) _ i.mp_cb];exact i.mp) (i.glKeep (λc b=>aG c b) λs c h=>(i.lateB h).2.2.1) i.gd (i.enKeep (λc b=>aG c b) λj d g o n cap h=>(i.lateE h).2.2.1) i.el i.jl
theorem Inv.given(i:Inv G S m w)(x:Vu):Inv G S m (w.setCell ⟨G.mb,3,US⟩ x):=i.turn i.m1 (λc d=>aG c d) aL ⟨rfl,rfl,rfl⟩ (i.st.keep (aG _ i.sb_mb)) (i.ce.keep (aG _ i.cb_mb)) i.sl.1 i.cl.1 (by obtain⟨f,e,a,b⟩:=i.ma;exact⟨x,e,by simp[UV,UX,a],b⟩) (by rw[aG (a:=⟨G.mb,3,US⟩) _ i.mp_mb];exact i.mp) (i.glKeep (λc d=>aG c d) λs c h=>(i.lateB h).1) i.gd (i.enKeep (λc d=>aG c d) λj k g o n cap h=>(i.lateE h).1) i.el i.jl
theorem Inv.winders(i:Inv G S m w)(ws:List Wn)(e:OA)(h:WRep G ws e):Inv G S {m with wnd:=ws} (w.setCell ⟨G.mb,4,US⟩ (.pointer e)):=i.turn i.m1 (λc d=>aG c d) aL ⟨rfl,rfl,rfl⟩ (i.st.keep (aG _ i.sb_mb)) (i.ce.keep (aG _ i.cb_mb)) i.sl.1 i.cl.1 (by obtain⟨f,k,a,b⟩:=i.ma;exact⟨f,e,by simp[UV,UX,a],h⟩) (by rw[aG (a:=⟨G.mb,4,US⟩) _ i.mp_mb];exact i.mp) (i.glKeep (λc d=>aG c d) λs c h=>(i.lateB h).1) i.gd (i.enKeep (λc d=>aG c d) λj l g o n cap h=>(i.lateE h).1) i.el i.jl
theorem uD(s t:Bs)(v:Vl):∀l:List (Bs×Vl),lookup t (put s v l)=if s=t then sT v else lookup t l
 |[]=>by simp[put,lookup]
 |(u,x)::r=>by by_cases h:u=s;subst h;simp only[put,if_true,lookup];by_cases k:u=t<;>simp[k];simp only[put,if_neg h,lookup,uD s t v r];by_cases k:u=t;subst k;simp[Ne.symm h];simp[k]
theorem Inv.setGlob(i:Inv G S m w)(f:(s,b)∈G.B){v:Vl}(C:VRep G v x):Inv G S {m with glob:=put s v m.glob} (w.setCell ⟨b,0,US⟩ x):=by
 have p:=i.lateB f;refine i.turn (i.m5 f) (λc l=>aG c l) aL ⟨rfl,rfl,rfl⟩ (i.st.keep (aG _ (Ne.symm p.2.1))) (i.ce.keep (aG _ (Ne.symm p.2.2.1))) i.sl.1 i.cl.1 (by rw[aG (a:=⟨b,0,US⟩) _ (Ne.symm p.1)];exact i.ma) (by rw[aG (a:=⟨b,0,US⟩) _ (Ne.symm p.2.2.2)];exact i.mp) ?_ ?_ (i.enKeep (λc l=>aG c l) λj F g o n cap h e=>?_) i.el i.jl;intro t c d;rw[uD];by_cases e:s=t;subst e;have l:c=b:=by obtain⟨j,q,e1⟩:=VV.1 f;obtain⟨k,r,e2⟩:=VV.1 d;have:j=k:=(VW (h₀:=by simpa using q) (h₁:=by simpa using r) i.gk).1 (by simp[e1,e2]);subst this;rw[e1]at e2;cases e2;rfl
 subst l;obtain⟨y,z,_⟩:=i.gl d;refine⟨x,by simp[UV,UX,z],?_⟩;rw[if_pos rfl];exact C;obtain⟨y,z,D⟩:=i.gl d;refine⟨y,?_,by rw[if_neg e];exact D⟩;rw[aG (a:=⟨b,0,US⟩) c ?_];exact z;intro A;have A:=A;subst A;have E:=(VX.1 i.nd2).1;obtain⟨j,q,e1⟩:=VV.1 f;obtain⟨k,r,e2⟩:=VV.1 d;have:j=k:=(VW (h₀:=by simpa using q) (h₁:=by simpa using r) E).1 (by simp[e1,e2]);subst this;rw[e1]at e2;cases e2;exact e rfl;intro t u d;rw[uD]at d;by_cases e:s=t;subst e;exact⟨b,f⟩;rw[if_neg e]at d;exact i.gd d;have e:=e;subst e;exact(VX.1 i.nd2).2.2 _ (VT.2 ⟨_,f,rfl⟩) _ (oR h) rfl
def Gh.id(G:Gh)(b:Nat):Gh:={G with J:=G.J++[b]}
theorem Gh.le_id(G:Gh)(b:Nat):G.le (G.id b):=⟨_root_.id,fun {i c} h=>by show(G.J++[b])[i]? =sT c;rw[eA (eL.1 h).1];exact h,_root_.id,_root_.id,rfl,rfl,rfl,rfl,rfl,rfl⟩
theorem Gh.id_at(G:Gh)(b:Nat):(G.id b).J[G.J.length]? =sT b:=by show(G.J++[b])[G.J.length]? =sT b;simp
theorem Inv.newId(i:Inv G S m w){o:Obj}(g:b∉G.J)(l:G.I b=sT o):Inv (G.id b) S {m with ids:=m.ids+1} w:=by have h:=G.le_id b;refine⟨i.imm,i.nd,i.mi,i.ml,i.st,i.ce,i.sl,i.cl,?_,i.mp,?_,i.gd,i.gk,?_,i.el,?_,?_,?_,i.fo,i.ff,i.fm,i.fi⟩;obtain⟨n,p,a,c⟩:=i.ma;exact⟨n,p,a,c.mo h⟩;intro s c q;obtain⟨x,a,k⟩:=i.gl q;exact⟨x,a,k.mo h⟩;intro j vs e r;obtain⟨t,u,v,a,c,d,k⟩:=i.en r;exact⟨t,u,v,a,c,d.mo h,k.mo h λ_ _ _ _ _=>rfl⟩;show(G.J++[b]).length=m.ids+1;simp[i.jl];show(G.J++[b]).Nodup;rw[VX];exact⟨i.jn,by simp,λx z y f e=>by simp at f;subst f;subst e;exact g z⟩;intro c hc;have hc:=hc;rcases VS.1 hc with hc|hc;exact i.ji hc;simp at hc;subst hc;exact⟨o,l⟩
theorem Inv.newObj(i:Inv G S m w)(o:Obj):Inv ((G.add w.heap.size o).id w.heap.size) S {m with ids:=m.ids+1} (w.alloc o):=(i.alloc o).newId (λh=>by obtain⟨x,a⟩:=i.ji h;rw[i.fresh (eR _)]at a;cases a) (Gh.add_at _ _ _)
theorem Inv.le_newObj(i:Inv G S m w)(o:Obj):G.le ((G.add w.heap.size o).id w.heap.size):=(Gh.le_add (i.fresh (eR _))).t (Gh.le_id _ _)
theorem Inv.at_newObj(i:Inv G S m w)(o:Obj):((G.add w.heap.size o).id w.heap.size).J[m.ids]? =sT w.heap.size:=by rw[<-i.jl];exact Gh.id_at _ _
def LRow(G:Gh)(h:Array Obj)(sv:Vu)(vs:List Vl):Prop:=
 (vs=[]/\∃a cap,sv=Sl a 0 cap)\/
 ∃g o cap arr,sv=Sl (sT ⟨g,o,US⟩) vs.length cap/\vs≠[]/\vs.length<=cap/\vs.length<=1000000/\h[g]? =sT (Cl arr 63)/\g∉G.mut/\G.I g=US/\¬G.F g/\∀i v,vs[i]? =sT v->∃x,arr[o+i]? =sT x/\VRep G v x
theorem Inv.fix(i:Inv G S m w){o:Obj}(l:g∉G.mut/\¬G.F g)(n:G.I g=US)(p:w.heap[g]? =sT o):Inv (G.add g o) S m w:=by have q:=l.1;have h:=Gh.le_add (o:=o) n;refine⟨?_,i.nd,?_,i.ml,i.st,i.ce,i.sl,i.cl,?_,i.mp,?_,i.gd,i.gk,?_,i.el,i.jl,i.jn,?_,i.fo,i.ff,i.fm,fun {b} f=>(if_neg (λe:b=g=>l.2 (e▸f))).t (i.fi f)⟩;intro b x f;have f:(if b=g then sT o else G.I b)=sT x:=f;by_cases e:b=g;subst e;rw[if_pos rfl]at f;cases f;exact p;rw[if_neg e]at f;exact i.imm f;intro b f;show(if b=g then sT o else G.I b)=US;rw[if_neg (λe:b=g=>q (e▸f))];exact i.mi f;obtain⟨r,t,a,c⟩:=i.ma;exact⟨r,t,a,c.mo h⟩;intro s c u;obtain⟨x,a,k⟩:=i.gl u;exact⟨x,a,k.mo h⟩;intro j vs e v;obtain⟨y,z,A,a,c,d,k⟩:=i.en v;exact⟨y,z,A,a,h.I c,d.mo h,k.mo h λ_ _ _ _ _=>rfl⟩;intro b f;obtain⟨x,B⟩:=i.ji f;exact⟨x,h.I B⟩
def Gh.env(G:Gh)(fb:Nat)(sv:Vu):Gh:={G with E:=G.E++[(fb,sv)]}
theorem Gh.le_env(G:Gh)(a:Nat)(b:Vu):G.le (G.env a b):=⟨_root_.id,_root_.id,fun {i c} h=>by show(G.E++[(a,b)])[i]? =sT c;rw[eA (eL.1 h).1];exact h,_root_.id,rfl,rfl,rfl,rfl,rfl,rfl⟩
theorem Inv.pushEnv(i:Inv G S m w){sv:Vu}{vs:List Vl}{e:Option Nat}(O:G.I r=sT (Cl #[sv,.pointer k0] 324))(P:NRep G e k0)(K:LRow G w.heap sv vs):Inv (G.env r sv) S {m with envs:=m.envs++[(vs,e)]} w:=by
 have h:=G.le_env r sv;have p:(G.env r sv).rows=G.rows++fU sv:=by unfold Gh.rows;show(G.E++[(r,sv)]).flatMap _=_;rw[List.flatMap_append];simp
 have f:(G.env r sv).mut=G.mut++fU sv:=by unfold Gh.mut;rw[p];simp[Gh.env]
 have l:∀b,b∈fU sv->b∉G.mut/\G.I b=US/\b<w.heap.size/\¬G.F b:=by rcases K with⟨rfl,a,cap,rfl⟩|⟨g,o,cap,t,rfl,hne,_,_,u,L,M,y,_⟩;intro b hb;cases a<;>simp[fU]at hb;obtain⟨v,N,rfl⟩:=VQ hne;intro b hb;have hb:b∈[g]:=hb;simp at hb;subst hb;exact⟨L,M,(eE.1 u).1,y⟩
 have A:(fU sv).Nodup:=by unfold fU;split<;>simp
 refine⟨i.imm,?_,?_,?_,i.st,i.ce,i.sl,i.cl,?_,i.mp,?_,i.gd,i.gk,?_,?_,i.jl,i.jn,i.ji,i.fo,i.ff,?_,i.fi⟩;rw[f,VX];exact⟨i.nd,A,λa Q b hb e=>(l b hb).1 (e▸Q)⟩;intro b hb;rw[f]at hb;rcases VS.1 hb with hb|hb;exact i.mi hb;exact(l b hb).2.1;intro b hb;rw[f]at hb;rcases VS.1 hb with hb|hb;exact i.ml hb;exact(l b hb).2.2.1;obtain⟨R,T,a,c⟩:=i.ma;exact⟨R,T,a,c.mo h⟩;intro s c U;obtain⟨x,a,k⟩:=i.gl U;exact⟨x,a,k.mo h⟩;intro j V W n;by_cases B:j<m.envs.length;have n:=n;rw[eA B]at n;obtain⟨C,D,H,a,c,d,k⟩:=i.en n;exact⟨C,D,H,h.E a,c,d.mo h,k.mo h λ_ _ _ _ _=>rfl⟩;have n:=n;rw[eB Om]at n;obtain⟨J,n⟩:j-m.envs.length=0/\(vs,e)=(V,W):=by rcases hz:j-m.envs.length with _|z;rw[hz]at n;exact⟨rfl,by simpa using n⟩;rw[hz]at n;simp at n
 cases n;refine⟨r,sv,k0,?_,O,P.mo h,?_⟩;show(G.E++[(r,sv)])[j]? =sT (r,sv);rw[eB (by rw[i.el];omega),i.el,J];rfl;rcases K with⟨rfl,a,cap,rfl⟩|⟨g,o,cap,t,rfl,hne,_,_,u,L,M,_,X⟩;exact .inl ⟨rfl,a,cap,rfl⟩;exact .inr ⟨g,o,cap,t,rfl,hne,u,λq v Y=>by obtain⟨x,e1,e2⟩:=X q v Y;exact⟨x,e1,e2.mo h⟩⟩;show(G.E++[(r,sv)]).length=(m.envs++[(vs,e)]).length;simp[i.el];intro b hb;rw[f]at hb;rcases VS.1 hb with hb|hb;exact i.fm hb;exact(l b hb).2.2.2
end
end
section
theorem dE{P:Program}{id:Nat}{b:Exit->Act->Wd->Prop}{a:Act}{l:List Oper}(n:Nat)(c:P.follows .mixedOrders=xA)(d:Region.lexTailB .any l.toArray n=xA)(h:wpStill P l.toArray w.drew (λe=>wpList P l.toArray b (l.drop n) e w.drew) (l.take n) a):(Code.region id l.toArray xA).wp P b a w:=wp_region_still_tail n c d h
theorem Va(d:Nat)(t:Nat)(v:Vu)(w:Wd):(VN (d+1) 63 (If t v) .nilIface).run prog w=.ok xN w:=by simp[VN,run_underlying underlying63]
theorem Uz{t:Nat}{v:Vu}(w:Wd):(binOp .neq 63 (If t v) .nilIface).run prog w=.ok (.bool xA) w:=by have e:(Op.equal 63 (If t v) .nilIface).run prog w=.ok xN w:=Va 9999 t v w;simp[binOp,e]
theorem Uo(d:Nat)(w:Wd):(VN (d+1) 63 .nilIface .nilIface).run prog w=.ok xA w:=by simp[VN,run_underlying underlying63]
theorem Un(w:Wd):(binOp .neq 63 .nilIface .nilIface).run prog w=.ok (.bool xN) w:=by have e:(Op.equal 63 .nilIface .nilIface).run prog w=.ok xA w:=Uo 9999 w;simp[binOp,e]
theorem qcd{c:Prop}(h:c:=by
  go_wp2_with (go_at_call 171;refine(jQ).mo ?_;rintro e w2 ⟨rfl,hww⟩;obtain rfl:=hww.symm)
  go_end0;exact⟨rfl,rfl⟩):c:=h
theorem Ar{t:Nat}{v:Vu}(h:w.cell? (Aa b)=sT (If t v)):Cp 259 #[bp b] w λe w'=>e=Rt (Tu #[])/\w'=w:=by have a:∀w,(binOp BinOp.neq 63 (If t v) .nilIface).run prog w=.ok (.bool xA) w:=λw=>Uz w;delta Cp;go_in;exact qcd
theorem qb9{c:Prop}(h:c:=by
  go_wp2_with (go_at_call 171;refine(kQ).mo ?_;rintro e w2 ⟨rfl,o,rfl⟩)
  exact⟨rfl,rfl,o,rfl⟩):c:=h
theorem As(h:w.cell? (Aa b)=sT .nilIface):Cp 259 #[bp b] w λe w'=>e=Pk (aB (aD 5))/\∃o,w'=w.alloc o:=by have a:∀w,(binOp BinOp.neq 63 .nilIface .nilIface).run prog w=.ok (.bool xN) w:=λw=>Un w;delta Cp;go_in;exact qb9
theorem CX{t:Nat}{v:Vu}(m:∀args w,(callFunc k args).run prog w=.ok (.enter k args) w)(d:∀e w,Q e w->(∃v,e=Rt v)\/(∃f,e=Pk f))(n:w.cell? (Aa q)=sT (bp b))(i:w.cell? (Aa b)=sT (If t v))(g:∀w',Lk w w'->Cp k (#[If t v]++l0) w' Q):Cp 258 #[.pointer k0,Ha k l0,bp q] w Q:=by obtain⟨j,l⟩:=aN g d;clear g d;delta Cp;go_in;go_wp2_with (go_at_call 259;refine Ds (Ar i) ?_);go_wp2_with (go_at_fn k;refine(j.o _ Lq).mo ?_;intro e w2 c);all_goals first|exact c|exact⟨rfl,c⟩|(rcases l.o _ _ c with⟨v,h⟩|⟨f,h⟩<;>cases h)
theorem qc4{c:Prop}(h:c:=by
  go_wp2_with (go_at_call 259;refine(As h2).mo ?_;rintro e w2 ⟨rfl,o,rfl⟩)
  exact⟨rfl,rfl,o,rfl⟩):c:=h
theorem CY(a:w.cell? (Aa q)=sT (bp b))(h2:w.cell? (Aa b)=sT .nilIface):Cp 258 #[.pointer k0,Ha k l0,bp q] w λe w'=>e=Pk (aB (aD 5))/\∃o,w'=w.alloc o:=by delta Cp;go_in;exact qc4
theorem Nu{t:Nat}{v:Vu}(f:w.cell? (Aa q)=sT (bp b))(c:w.cell? (Aa b)=sT (If t v))(g:w.frozen? (Aa b)=xN)(d:∃t y,x=If t y):Cp 286 #[.pointer k0,x,bp q] w λe w'=>e=Rt (Tu #[])/\w'=w.setCell (Aa b) x:=by obtain⟨h,y,rfl⟩:=d;delta Cp;go_in;go_wp2_with (go_at_call 259;refine Ds (Ar c) ?_);go_wp2;go_end0;exact⟨rfl,rfl⟩
theorem Nv(a:w.cell? (Aa q)=sT (bp b))(h2:w.cell? (Aa b)=sT .nilIface):Cp 286 #[.pointer k0,x,bp q] w λe w'=>e=Pk (aB (aD 5))/\∃o,w'=w.alloc o:=by delta Cp;go_in;exact qc4
theorem Mw:Cp 298 #[.pointer sV] w λe w'=>e=Rt (Ii 0)/\w'=w:=by delta Cp;go_in;go_wp2;go_ret;exact⟨rfl,rfl⟩
theorem Mu{n:Int}(h:w.cell? (Ab b 2)=sT (Ii n)):Cp 298 #[bp b] w λe w'=>e=Rt (Ii n)/\w'=w:=by delta Cp;go_in;go_wp2;go_ret;exact⟨rfl,rfl⟩
def nS(w:Wd)(p:OA)(n:Int):Prop:=(p=sV/\n=0)\/∃b,p=sT (Aa b)/\w.cell? (Ab b 2)=sT (Ii n)
theorem yO(n:Int)(h:nS w p n):Cp 298 #[.pointer p] w λe w'=>e=Rt (Ii n)/\w'=w:=by rcases h with⟨rfl,rfl⟩|⟨b,rfl,h⟩;exact Mw;exact Mu h
theorem Hv{t:Nat}{v:Vu}(n:Int)(h:nS w p n)(c:0<=n)(d:n<=1000000):Cp 282 #[.pointer p,If t v] w λe w'=>e=Rt (bp w.heap.size)/\w'=w.alloc (Cl #[If t v,.pointer p,Ii (n+1)] 345):=by have b:=hZ (yO n h);clear h;delta Cp;go_in;go_wp2_with (go_at_call 298;refine Ds b.o ?_);go_wp2;go_ret;exact⟨rfl,rfl⟩
end
section
def cY(g o cap:Nat):OA:=if cap=1 then sT (Ab g o)else sT (Ab g (o+1))
theorem Mi(g o n cap:Nat)(_:n+1<=cap)(w:Wd):(VY 84 (Sl (sT (Ab g o)) (n+1) cap) (sT (Ii 1)) sV sV).run prog w=.ok (Sl (cY g o cap) n (cap-1)) w:=by have a:(1:Int)<=((n+1:Nat):Int):=Om;simp[VY,VZ,run_underlying underlying84,go_sem,cY];intro h;omega
theorem yK(g o n cap:Nat)(_:n+1<=cap)(w:Wd):(VY 294 (Sl (sT (Ab g o)) (n+1) cap) (sT (Ii 1)) sV sV).run prog w=.ok (Sl (cY g o cap) n (cap-1)) w:=by have a:(1:Int)<=((n+1:Nat):Int):=Om;simp[VY,VZ,run_underlying underlying294,go_sem,cY];intro h;omega
theorem Db{cap:Nat}(n:Nat)(a:Array Vu)(u:∀args w,(callFunc k args).run prog w=.ok (.enter k args) w)(j:∀e w,Q e w->(∃v,e=Rt v)\/(∃l,e=Pk l))(m:w.cell? (Ab g o)=sT (Ha k a))(p:∀w',Lk (((((w.alloc (Cl #[bp r] 89)).alloc (Cl #[Sl (sT (Ab g o)) (n+1) cap] 294)).alloc (Cl #[.pointer k0] 240)).alloc (Cl #[.pointer k1] 333)).alloc (Cl #[Ha d0 l0] 315)) w'->Cp k (#[.pointer k0,Ha 281 #[bp w.heap.size,bp (w.heap.size+1),bp (w.heap.size+2),bp (w.heap.size+3),bp (w.heap.size+4)]]++a) w' Q):Cp 261 #[bp r,Sl (sT (Ab g o)) (n+1) cap,.pointer k0,.pointer k1,Ha d0 l0] w Q:=by
 obtain⟨s,t⟩:=aN p j;have kc:∀b o2 c d f:Obj,(((((w.alloc b).alloc o2).alloc c).alloc d).alloc f).cell? (Ab g o)=sT (Ha k a):=λb o2 c d f=>by rw[<-m];exact MJ (aC m) b o2 c d f
 have x:(((n+1:Nat):Int)==0)=xN:=So;have q:(0:Int)<(n:Int)+1:=Om;clear p j;delta Cp;go_in;go_wp2;refine dE 5 Kr Kr ?_;simp only[WB,WD,WF,WG];repeat still_step
 refine wpStill_nil ?_;go_wp2_with (go_at_fn k;refine(s.o _ Lq).mo ?_;intro e w2 i);all_goals first|exact i|exact⟨rfl,i⟩|(rcases t.o _ _ i with⟨v,h⟩|⟨l,h⟩<;>cases h)
theorem OR(b c d g o n cap t f:Nat)(v:Vu)(i:Array Vu)(w:Wd)(Q:En->Wd->Prop)(j:∀e w,Q e w->(∃v,e=Rt v)\/(∃k,e=Pk k))(u:w.cell? (Aa b)=sT (bp d))(x:w.cell? (Aa c)=sT (Ha f i))(y:w.cell? (Ab g o)=sT (If t v))(p:n+1<=cap)(z:n+1<=1000000)(l:∀w',Lk w w'->Cp 181 #[bp d,If t v,Sl (cY g o cap) n (cap-1),Ha f i] w' Q):Cp 262 #[Sl (sT (Ab g o)) (n+1) cap,bp b,bp c] w Q:=by
 obtain⟨q,r⟩:=aN l j;have m:(0:Int)<(n:Int)+1:=Om;have s:∀w,(VY 84 (Sl (sT (Ab g o)) (n+1) cap) (sT (Ii 1)) sV sV).run prog w=.ok (Sl (cY g o cap) n (cap-1)) w:=λw=>Mi g o n cap p w;clear l j;delta Cp;go_in;go_wp2;refine dE 7 Kr Kr ?_;simp only[WB,WD,WF,WG];repeat still_step
 refine wpStill_nil ?_;go_wp2_with (go_at_call 181;refine(q.o _ Lq).mo ?_;intro e w2 a);all_goals first|exact a|exact⟨rfl,a⟩|(rcases r.o _ _ a with⟨v,h⟩|⟨k,h⟩<;>cases h)
theorem wO{sa:OA}(c:Array Vu)(l:∀args w,(callFunc k args).run prog w=.ok (.enter k args) w)(d:∀e w,Q e w->(∃v,e=Rt v)\/(∃f,e=Pk f))(m:w.cell? (Aa r)=sT (bp b))(n:w.cell? (Aa b)=sT (Ha k c))(o:w.cell? (Aa d0)=sT (Sl sa d2 sc))(p:w.cell? (Aa d1)=sT (Ha d3 l0))(g:∀w',Lk w w'->Cp k (#[Sl sa d2 sc,Ha d3 l0]++c) w' Q):Cp 208 #[bp r,bp d0,bp d1] w Q:=by
 obtain⟨i,j⟩:=aN g d;clear g d;delta Cp;go_in;go_wp2;refine dE 6 Kr Kr ?_;simp only[WB,WD,WF,WG];repeat still_step
 refine wpStill_nil ?_;go_wp2_with (go_at_fn k;refine(i.o _ Lq).mo ?_;intro e w2 a);all_goals first|exact a|exact⟨rfl,a⟩|(rcases j.o _ _ a with⟨v,h⟩|⟨f,h⟩<;>cases h)
theorem DC{t:Nat}{v:Vu}(d g o n cap f:Nat)(i a:OA)(c:Int)(j:Array Vu)(m:∀e w,Q e w->(∃v,e=Rt v)\/(∃p,e=Pk p))(q:w.cell? (Aa r)=sT (bp d))(s:w.cell? (Aa d0)=sT (Sl (sT (Ab g o)) (n+1) cap))(u:w.cell? (Aa d1)=sT (.pointer i))(y:∀v w',Q (Rt v) w'->w'.cell? (Aa r)=sT (bp d)/\w'.cell? (Aa d0)=sT (Sl (sT (Ab g o)) (n+1) cap)/\w'.cell? (Aa d1)=sT (.pointer i)/\w'.cell? (Aa d2)=sT (.pointer a)/\w'.cell? (Aa d3)=sT (Ha f j))(z:w.cell? (Aa d2)=sT (.pointer a))(A:w.cell? (Aa d3)=sT (Ha f j))(B:nS w a c)(J:0<=c)(l:c<=1000000)(K:n+1<=cap)(S:n+1<=1000000)(C:∀w',Lk (w.alloc (Cl #[If t v,.pointer a,Ii (c+1)] 345)) w'->Cp 261 #[bp d,Sl (cY g o cap) n (cap-1),.pointer i,bp w.heap.size,Ha f j] w' Q):Cp 281 #[If t v,bp r,bp d0,bp d1,bp d2,bp d3] w Q:=by
 obtain⟨L,M⟩:=aN C m;have D:(0:Int)<(n:Int)+1:=Om;have N:∀w,(VY 294 (Sl (sT (Ab g o)) (n+1) cap) (sT (Ii 1)) sV sV).run prog w=.ok (Sl (cY g o cap) n (cap-1)) w:=λw=>yK g o n cap K w;have O:=hZ y;have P:Hid (∀w',Lk w w'->nS w' a c):=λw' R=>by rcases B with h|⟨b,e1,e2⟩;exact .inl h;exact .inr ⟨b,e1,by rw[UT,R.heap];exact e2⟩
 have E:=aC q;have F:=aC s;have G:=aC u;have H:=aC z;have I:=aC A;have T:∀o:Obj,(w.alloc o).cell? (Aa d3)=sT (Ha f j):=λo=>(aE I o).t A;have k1:∀o:Obj,(w.alloc o).cell? (Aa r)=sT (bp d):=λo=>(aE E o).t q;have U:∀x:Obj,(w.alloc x).cell? (Aa d0)=sT (Sl (sT (Ab g o)) (n+1) cap):=λx=>(aE F x).t s;have V:∀o:Obj,(w.alloc o).cell? (Aa d1)=sT (.pointer i):=λo=>(aE G o).t u;have W:∀o:Obj,(w.alloc o).cell? (Aa d2)=sT (.pointer a):=λo=>(aE H o).t z;clear C m y B E F G H I;delta Cp;go_in;go_wp2;go_region_held2 (λw'=>w'.cell? (Aa r)=sT (bp d)/\w'.cell? (Aa d0)=sT (Sl (sT (Ab g o)) (n+1) cap)/\w'.cell? (Aa d1)=sT (.pointer i)/\w'.cell? (Aa d2)=sT (.pointer a)/\w'.cell? (Aa d3)=sT (Ha f j)) (first|(exact O.o _ _ k)|go_keep) (first|(go_at_call 282;refine(Hv c (P.o _ Lq) J l).mo ?_;rintro e w2 ⟨rfl,rfl⟩)|(go_at_call 261;refine(L.o _ Lq).mo ?_;intro e w2 k;rcases M.o _ _ k with⟨v,rfl⟩|⟨p,rfl⟩;rotate_left;(exact⟨rfl,k⟩)));go_wp2;exact k
end
section
theorem Cu(A:Array Vu)(t i:Nat)(v:Vu):((w.alloc (Cl A t)).setCell (Ab w.heap.size i) v).heap=(w.alloc (Cl (A.setIfInBounds i v) t)).heap:=by apply WH;intro c;by_cases h:c=w.heap.size;subst h;rw[eN];show((w.alloc (Cl A t)).heap.modify w.heap.size _)[w.heap.size]? =_;rw[UX,if_pos rfl,eN];simp;rw[aG (a:=Ab w.heap.size i) c h];rcases VH c w.heap.size with h1|h1;rw[eH _ _ _ h1,eH _ _ _ h1];rw[VM So,VM So]
def Chn(w:Wd):List Vu->Option Addr->Prop
 | [],p=>p=sV
 |x::r,p=>∃b q,p=sT (Aa b)/\w.heap[b]? =sT (Cl #[x,.pointer q,Ii ((r.length:Int)+1)] 345)/\Chn w r q
theorem oU:(prog.info? 63).map (λi=>(i.zero,i.size,i.bytes))=sT (sT .nilIface,1,16):=Kr
def fK(xs:List Vu)(k:Nat):Array Vu:=(WI k Value.nilIface++xs.reverse.drop k).toArray
theorem Pl(pre:List Vu)(y:Vu)(a:List Vu):(fK (pre++y::a) (a.length+1)).setIfInBounds a.length y=fK (pre++y::a) a.length:=by
 unfold fK;apply WH;intro i;simp only[List.setIfInBounds_toArray,List.getElem?_toArray];have c:(pre++y::a).reverse=a.reverse++(y::pre.reverse):=Sm;have b:(a.reverse++y::pre.reverse).drop a.length=y::pre.reverse:=by rw[show a.length=a.reverse.length from by simp,List.drop_left]
 have e:(a.reverse++y::pre.reverse).drop (a.length+1)=pre.reverse:=by rw[<-List.drop_drop,b];rfl
 rw[c,b,e];simp only[List.getElem?_set,List.length_append,WJ];by_cases h:a.length=i;subst h;rw[if_pos rfl,if_pos Om,eB Sm];simp;rw[if_neg h];rcases VH i a.length with h2|h2;rw[eA So,eA So];simp only[List.getElem?_replicate];rw[if_pos Om,if_pos h2];rw[eB So,eB So];simp only[WJ];obtain⟨d,rfl⟩:∃d,i=a.length+1+d:=⟨i-a.length-1,by omega⟩;rw[show a.length+1+d-(a.length+1)=d from by omega,show a.length+1+d-a.length=d+1 from by omega];simp
theorem Wp(n:Nat):madeCells #[.nilIface] n=(WI n Value.nilIface).toArray:=by apply WH;intro i;rcases VH i n with h|h;simp[madeCells,h,Nat.mod_one];rw[VM (by simp[madeCells];omega),VM So]
def oY(w:Wd):Vu->Nat
 | .pointer (sT a)=>match w.cell? (Ab a.block 2)with
  |some (.int _ n)=>n.toNat
  |_=>0
 |_=>0
theorem In(p:OA)(h:Chn w xs p)(E:∀x∈xs,∃t v,x=If t v)(u:0<xs.length)(R:xs.length<=100000):Cp 280 #[.pointer p] w λe w'=>e=Rt (Sl (sT (Aa w.heap.size)) xs.length xs.length)/\Lk (w.alloc (Cl xs.reverse.toArray 63)) w':=by
 have F:nS w p (xs.length:Int):=by cases xs with|nil=>simp at u|cons x r=>obtain⟨b,q,rfl,f,_⟩:=h;exact .inr ⟨b,rfl,by simp[UT,f]⟩
 obtain⟨I,J,K,S⟩:=dT (yO (xs.length:Int) F) h E u;have L:∀w:Wd,(Instr.makeSlice 84 (Ii (xs.length:Int)) (Ii (xs.length:Int))).run prog w=.ok (Sl (sT (Aa w.heap.size)) xs.length xs.length) (w.alloc (Cl (madeCells #[.nilIface] xs.length) 63)):=λw=>run_make_row' 84 63 .nilIface 16 underlying84 oU rfl .i64 .i64 xs.length Om Om w;clear h E F u;delta Cp;go_in;go_wp2_with (go_at_call 298;refine Ds I.o ?_);go_wp2;go_loopw [0] (λg wr=>∃pre i q,xs=pre++i/\g=.pointer q/\Chn w i q/\Lk (w.alloc (Cl (fK xs i.length) 63)) wr) (λg _=>oY w g);case atStart=>refine⟨[],xs,p,rfl,rfl,J.o,⟨?_,rfl,rfl,rfl⟩⟩;show(w.alloc (Cl (madeCells #[.nilIface] xs.length) 63)).heap=(w.alloc (Cl (fK xs xs.length) 63)).heap;rw[Wp];(have:(fK xs xs.length)=(WI xs.length Value.nilIface).toArray:=by unfold fK;rw[show xs.length=xs.reverse.length from by simp,List.drop_length];simp);rw[this]
 case round=>obtain⟨pre,i,q,a,rfl,G,j⟩:=hrel;obtain⟨k,l⟩:=aN a j;cases i with|nil=>obtain rfl:q=sV:=G;clear a j;go_wp2;go_ret;refine⟨rfl,?_⟩;have:=l.o;(have M:fK xs ([]:List Vu).length=xs.reverse.toArray:=by simp[fK]);rw[M]at this;exact this|cons y r=>obtain⟨b,m,rfl,f,H⟩:=G;obtain⟨N,B⟩:=aN f H;have n:=(eE.1 f).1;(have d:wr.heap[b]? =sT (Cl #[y,.pointer m,Ii ((r.length:Int)+1)] 345):=by rw[j.heap,eH _ _ _ n];exact f);(have c0:wr.cell? (Aa b)=sT y:=by simp[UT,d]);(have c1:wr.cell? (Ab b 1)=sT (.pointer m):=by simp[UT,d]);(have c2:wr.cell? (Ab b 2)=sT (Ii ((r.length:Int)+1)):=by simp[UT,d]);(have o:xs.length=pre.length+(r.length+1):=by rw[a];simp);(have c:wr.heap[w.heap.size]? =sT (Cl (fK xs (r.length+1)) 63):=by rw[j.heap];exact eN _ _);(have C:(fK xs (r.length+1)).size=xs.length:=by simp[fK];omega);(obtain⟨z,T⟩:∃z,wr.cell? (Ab w.heap.size r.length)=sT z:=by have O:r.length<(fK xs (r.length+1)).size:=Om;exact⟨(fK xs (r.length+1))[r.length],by simp only[UT,c];simp[O]⟩);(have U:wr.frozen? (Ab w.heap.size r.length)=xN:=by simp[UU,c]);have P:(r.length:Int)<(xs.length:Int):=Om;have Q:r.length<=100000:=Om;obtain⟨ty,s,rfl⟩:=K.o y (by rw[a];simp);(have k1:∀v,(wr.setCell (Ab w.heap.size r.length) v).cell? (Ab b 1)=sT (.pointer m):=λv=>by rw[cJ (by show b≠w.heap.size;omega)];exact c1);clear f H a j n d c C o;go_wp2;go_region;(all_goals (go_wp2;go_roundw));(case rel=>refine⟨pre++[If ty s],r,m,by rw[k.o];simp,rfl,B.o,⟨?_,l.o.tape,l.o.os,l.o.output⟩⟩;show(wr.setCell (Ab w.heap.size r.length) (If ty s)).heap=_;(have e1:(wr.setCell (Ab w.heap.size r.length) (If ty s)).heap=((w.alloc (Cl (fK xs (r.length+1)) 63)).setCell (Ab w.heap.size r.length) (If ty s)).heap:=by simp only[UV];rw[l.o.heap];rfl);rw[e1,Cu];have e2:=Pl pre (If ty s) r;rw[<-k.o]at e2;rw[e2]);case measure=>(have e1:oY w (bp b)=r.length+1:=by simp only[oY,UT,N.o];simp);rw[e1];cases r with|nil=>obtain rfl:m=sV:=B.o;simp[oY]|cons V W=>obtain⟨X,Y,rfl,D,_⟩:=B.o;simp only[oY,UT,D];simp
theorem jZ(c:Array Vu)(t o n:Nat)(h:w.heap.size=n):(w.alloc (Cl c t)).cell? (Ab n o)=c[o]?:=by subst h;simp only[UT,eN];simp
theorem cI(h:Lk W w)(p:Addr):w.cell? p=W.cell? p:=by simp only[UT,h.heap]
theorem DB{cap:Nat}{a:OA}(pd:OA)(xs:List Vu)(I:∀args w,(callFunc k args).run prog w=.ok (.enter k args) w)(m:∀e w,Q e w->(∃v,e=Rt v)\/(∃n,e=Pk n))(f:∀v w',Q (Rt v) w'->w'.cell? (Aa (w.heap.size+4))=sT (Ha k l0)/\w'.cell? (Aa (w.heap.size+3))=sT (.pointer pd))(g:Chn w xs pd)(h:∀x∈xs,∃t v,x=If t v)(o:0<xs.length)(p:xs.length<=100000)(i:∀w',Lk ((((((w.alloc (Cl #[bp r] 89)).alloc (Cl #[Sl a 0 cap] 294)).alloc (Cl #[.pointer k0] 240)).alloc (Cl #[.pointer pd] 333)).alloc (Cl #[Ha k l0] 315)).alloc (Cl xs.reverse.toArray 63)) w'->Cp k (#[Sl (sT (Aa (w.heap.size+5))) xs.length xs.length]++l0) w' Q):Cp 261 #[bp r,Sl a 0 cap,.pointer k0,.pointer pd,Ha k l0] w Q:=by
 obtain⟨s,A,u⟩:=cB i m f;have B:Hid (∀w',Lk (((((w.alloc (Cl #[bp r] 89)).alloc (Cl #[Sl a 0 cap] 294)).alloc (Cl #[.pointer k0] 240)).alloc (Cl #[.pointer pd] 333)).alloc (Cl #[Ha k l0] 315)) w'->Cp 280 #[.pointer pd] w' λe w2=>e=Rt (Sl (sT (Aa (w.heap.size+5))) xs.length xs.length)/\Lk (w'.alloc (Cl xs.reverse.toArray 63)) w2):=λw' j=>by (have C:Chn w' xs pd:=by (have l:∀b,b<w.heap.size->w'.heap[b]? =w.heap[b]?:=λb l=>by rw[j.heap,eH _ _ _ So,eH _ _ _ So,eH _ _ _ So,eH _ _ _ So,eH _ _ _ l]);clear o p i f s u h j;induction xs generalizing pd with|nil=>exact g|cons x y D=>obtain⟨b,q,e1,e2,e3⟩:=g;exact⟨b,q,e1,by rw[l b (eE.1 e2).1];exact e2,D q e3⟩);have z:=In pd C h o p;(have E:w'.heap.size=w.heap.size+5:=by rw[j.heap];simp);rw[E]at z;exact z
 have F:(((((w.alloc (Cl #[bp r] 89)).alloc (Cl #[Sl a 0 cap] 294)).alloc (Cl #[.pointer k0] 240)).alloc (Cl #[.pointer pd] 333)).alloc (Cl #[Ha k l0] 315)).cell? (Aa (w.heap.size+4))=sT (Ha k l0):=jZ _ _ _ _ Sm;have G:(((((w.alloc (Cl #[bp r] 89)).alloc (Cl #[Sl a 0 cap] 294)).alloc (Cl #[.pointer k0] 240)).alloc (Cl #[.pointer pd] 333)).alloc (Cl #[Ha k l0] 315)).cell? (Aa (w.heap.size+3))=sT (.pointer pd):=(aE Sm _).t (jZ _ _ _ _ Sm);have H:((((((w.alloc (Cl #[bp r] 89)).alloc (Cl #[Sl a 0 cap] 294)).alloc (Cl #[.pointer k0] 240)).alloc (Cl #[.pointer pd] 333)).alloc (Cl #[Ha k l0] 315)).alloc (Cl xs.reverse.toArray 63)).cell? (Aa (w.heap.size+4))=sT (Ha k l0):=(aE Sm _).t F;have k1:((((((w.alloc (Cl #[bp r] 89)).alloc (Cl #[Sl a 0 cap] 294)).alloc (Cl #[.pointer k0] 240)).alloc (Cl #[.pointer pd] 333)).alloc (Cl #[Ha k l0] 315)).alloc (Cl xs.reverse.toArray 63)).cell? (Aa (w.heap.size+3))=sT (.pointer pd):=(aE Sm _).t G;clear i m f g h;delta Cp;go_in;go_wp2;go_region_held2 (λw'=>w'.cell? (Aa (w.heap.size+4))=sT (Ha k l0)/\w'.cell? (Aa (w.heap.size+3))=sT (.pointer pd)) (first|(exact u.o _ _ d)|(exact⟨(cI c _).t H,(cI c _).t k1⟩)|go_keep) (first|(go_at_call 280;refine iF (B.o _ Lq) λw2 c=>?_)|(go_at_fn k;refine(s.o _ (by exact⟨c.heap,c.tape,c.os,c.output⟩)).mo ?_;intro e w3 d;rcases A.o _ _ d with⟨v,rfl⟩|⟨n,rfl⟩;rotate_left;(exact⟨rfl,d⟩)));go_wp2;exact d
end
section
theorem jU{o:Obj}{v:Vu}(h:b<w.heap.size):((w.alloc o).setCell (Ab b i) v).heap=((w.setCell (Ab b i) v).alloc o).heap:=by apply WH;intro c;have d:(w.setCell (Ab b i) v).heap.size=w.heap.size:=aL;by_cases e:c=b;subst e;rw[eH _ _ _ (by rw[d];exact h)];show((w.alloc o).heap.modify c _)[c]? =(w.heap.modify c _)[c]?;rw[UX,if_pos rfl,UX,if_pos rfl,eH _ _ _ h];rw[aG (a:=Ab b i) c e];rcases Nat.lt_trichotomy c w.heap.size with h1|h1|h1;rw[eH _ _ _ h1,eH _ _ _ (by rw[d];exact h1),aG (a:=Ab b i) c e];rw[h1,eN,<-d,eN];rw[VM So,VM (by simp[d];omega)]
theorem OI{t:Int}{sa:OA}(g:w.cell? (Aa r)=sT (bp d0))(c:Mt d0 t A 10 w)(h:0<=t)(i:t+1<=A)(j:A<=1000000):Cp 181 #[bp r,If 132 (bp b),Sl sa d2 sc,Ha d1 l0] w λe w'=>e=Rt (Ha 208 #[bp (w.heap.size+2),bp w.heap.size,bp (w.heap.size+1)])/\Lk ((((w.setCell (Aa d0) (Ii (t+1))).alloc (Cl #[Sl sa d2 sc] 84)).alloc (Cl #[Ha d1 l0] 161)).alloc (Cl #[bp b] 132)) w':=by have m:∀a o2,((w.alloc a).alloc o2).cell? (Aa r)=sT (bp d0):=λa o2=>(gY (aC g) a o2).t g;have d:=c.lt;have l:Hid (∀a o2,Cp 108 #[bp d0,Ii 1] ((w.alloc a).alloc o2) λe w'=>e=Rt (Tu #[])/\∃k,w'=(((w.alloc a).alloc o2).setCell (Aa d0) (Ii (t+1))).drewN k):=λa o2=>cZ t A 10 1 _ (by unfold Mt at*;rw[eH _ _ _ So,eH _ _ _ d];exact c) h i Om j;have o:∀w,(VP (If 132 (bp b)) 63 132 xA).run prog w=.ok (Tu #[bp b,.bool xA]) w:=λw=>qS w;clear c;delta Cp;go_in;go_wp2_with (go_at_call 108;refine iC (l.o _ _) λn=>?_);go_wp2_with (go_at_call 171;refine Ds jQ ?_);go_wp2;go_ret;exact⟨by simp,⟨rfl,rfl,rfl,rfl⟩⟩
theorem OJ{ty:Nat}{v:Vu}{t:Int}{sa:OA}(f:w.cell? (Aa r)=sT (bp d0))(b:Mt d0 t A 10 w)(g:0<=t)(h:t+1<=A)(i:A<=1000000)(c:ty≠132):Cp 181 #[bp r,If ty v,Sl sa d2 sc,Ha d1 l0] w λe w'=>e=Pk (aB (aD 6))/\Below w.heap.size (w.setCell (Aa d0) (Ii (t+1))) w':=by have m:∀a o2,((w.alloc a).alloc o2).cell? (Aa r)=sT (bp d0):=λa o2=>(gY (aC f) a o2).t f;have d:=b.lt;have j:Hid (∀a o2,Cp 108 #[bp d0,Ii 1] ((w.alloc a).alloc o2) λe w'=>e=Rt (Tu #[])/\∃k,w'=(((w.alloc a).alloc o2).setCell (Aa d0) (Ii (t+1))).drewN k):=λa o2=>cZ t A 10 1 _ (by unfold Mt at*;rw[eH _ _ _ So,eH _ _ _ d];exact b) g h Om i;have p:∀w,(VP (If ty v) 63 132 xA).run prog w=.ok (Tu #[.pointer sV,.bool xN]) w:=λw=>lZ c w;clear b;delta Cp;go_in;go_wp2_with (go_at_call 108;refine iC (j.o _ _) λn=>?_);go_wp2_with (go_at_call 171;refine iC kQ λo=>?_);refine⟨rfl,rfl,?_⟩;have l:(w.setCell (Aa d0) (Ii (t+1))).heap.size=w.heap.size:=aL;have b1:=(((Below.refl w.heap.size (w.setCell (Aa d0) (Ii (t+1)))).alloc (by rw[l];exact eR _) (Cl #[Sl sa d2 sc] 84)).alloc Sm (Cl #[Ha d1 l0] 161));exact((nG b1).alloc So _).alloc So _
theorem OH{v:Vu}{t:Int}{sa:OA}(h:w.cell? (Aa r)=sT (bp d0))(f:Mt d0 t t 10 w)(j:0<=t)(k:t<=1000000):Cp 181 #[bp r,v,Sl sa d2 sc,Ha d1 l0] w λe w'=>e=Pk (aB (aD 10))/\Below w.heap.size (w.setCell (Aa d0) (Ii t)) w':=by have n:∀b o2,((w.alloc b).alloc o2).cell? (Aa r)=sT (bp d0):=λb o2=>(gY (aC h) b o2).t h;have g:=f.lt;have l:Hid (∀b o2,Cp 108 #[bp d0,Ii 1] ((w.alloc b).alloc o2) λe w'=>e=Pk (aB (aD 10))/\Below (((w.alloc b).alloc o2)).heap.size (((w.alloc b).alloc o2).setCell (Aa d0) (Ii t)) w'):=λb o2=>dH t 1 _ (by unfold Mt at*;rw[eH _ _ _ So,eH _ _ _ g];exact f) j Om Om Om k;clear f;delta Cp;go_in;go_wp2_with (go_at_call 108;refine iF (l.o _ _) λw2 d=>?_);refine⟨rfl,rfl,?_⟩;have m:(w.setCell (Aa d0) (Ii t)).heap.size=w.heap.size:=aL;refine⟨d.os,d.tape,d.output,by rw[m];have:=d.size;simp only[aL]at this;simp at this;omega,λc i=>?_⟩;rw[d.block c So,jU So,eH _ _ _ (by simp only[aL];simp;omega)];by_cases e:c=d0;subst e;show((w.alloc _).heap.modify c _)[c]? =(w.heap.modify c _)[c]?;rw[UX,if_pos rfl,UX,if_pos rfl,eH _ _ _ i];rw[aG (a:=Aa d0) c e,aG (a:=Aa d0) c e,eH _ _ _ i]
def nQ(w:Wd):Nat->Option Addr->Nat->Prop
 |0,p,fb=>p=sT (Aa fb)
 |n+1,p,fb=>∃b q,p=sT (Aa b)/\w.cell? (Ab b 1)=sT (.pointer q)/\nQ w n q fb
theorem xR{cap:Nat}(i:Nat)(h:nQ w u p r)(k:w.cell? (Aa r)=sT (Sl (sT (Ab g o)) n cap))(y:i<n)(z:u<=1000000000)(_:n<=1000000000):Cp 257 #[.pointer p,Ag #[Ii (u:Int),Ii (i:Int)]] w λe w'=>e=Rt (.pointer (sT (Ab g (o+i))))/\Lk (w.alloc (Cl #[Ii (u:Int),Ii (i:Int)] 263)) w':=by
 have t:=hZ h;have A:∀x,(w.alloc x).cell? (Aa r)=sT (Sl (sT (Ab g o)) n cap):=λx=>(aE (aC k) x).t k;have v:(i:Int)<(n:Int):=Om;clear h;delta Cp;go_in;go_wp2;go_loopw [0,7] (λa b wr=>∃c q,c<=u/\b=Ii ((u:Int)-(c:Int))/\a=.pointer q/\nQ w c q r/\wr=w.alloc (Cl #[Ii (u:Int),Ii (i:Int)] 263)) (λ_ b _=>u-(intOf b).toNat);case atStart=>exact⟨u,p,eR _,by simp,rfl,t.o,rfl⟩
 case round=>obtain⟨c,q,B,rfl,rfl,l,rfl⟩:=hrel;cases c with|zero=>obtain rfl:q=sT (Aa r):=l;have f:¬((u:Int)-((0:Nat):Int)<(u:Int)):=Om;go_wp2;go_quiet (fail);go_wp2;go_ret;exact⟨rfl,⟨rfl,rfl,rfl,rfl⟩⟩|succ c=>obtain⟨b,m,rfl,s,d⟩:=l;have C:∀x,(w.alloc x).cell? (Ab b 1)=sT (.pointer m):=λx=>(aE (aC s) x).t s;have f:(u:Int)-((c+1:Nat):Int)<(u:Int):=Om;have j:=hZ d;clear d;go_wp2;go_roundw;(case rel=>exact⟨c,m,by omega,by go_num,by first|trivial|rfl,j.o,by first|trivial|rfl⟩);case measure=>simp[intOf];omega
end
section
theorem Bo{B:Nat}{w0:Wd}(h:Lk W w)(b:Below B w0 W):Below B w0 w:=⟨h.os.t b.os,h.tape.t b.tape,h.output.t b.output,by rw[h.heap];exact b.size,λk a=>by rw[h.heap];exact b.block k a⟩
theorem Xj(q u i c g o n cap t k:Nat)(v:Vu)(p:OA)(d:Array Vu)(w:Wd)(Q:En->Wd->Prop)(D:∀args w,(callFunc k args).run prog w=.ok (.enter k args) w)(f:∀e w,Q e w->(∃v,e=Rt v)\/(∃j,e=Pk j))(E:w.cell? (Aa q)=sT (Ii (u:Int)))(F:w.cell? (Ab q 1)=sT (Ii (i:Int)))(h:nQ w u p c)(r:w.cell? (Aa c)=sT (Sl (sT (Ab g o)) n cap))(s:i<n)(x:u<=1000000000)(y:n<=1000000000)(l:w.cell? (Ab g (o+i))=sT (If t v))(m:∀w',Bt w w'->Cp k (#[If t v]++d) w' Q):Cp 256 #[.pointer p,Ha k d,bp q] w Q:=by obtain⟨z,A,B⟩:=cB m f (xR i h r s x y);clear m f h;delta Cp;go_in;go_wp2_with (go_at_call 257;refine iF B.o λw2 a=>?_;have G:w2.cell? (Ab g (o+i))=sT (If t v):=(cI a _).t ((aE (aC l) _).t l);have C:=hZ a;clear a);go_wp2_with (go_at_fn k;refine(z.o _ (Bo C.o ((Below.refl _ _).alloc (eR _) _))).mo ?_;intro e w3 b);all_goals first|exact b|exact⟨rfl,b⟩|(rcases A.o _ _ b with⟨v,h⟩|⟨j,h⟩<;>cases h)
theorem Nr{u:Nat}{y:Vu}(q i f g o n cap:Nat)(b:∃t v,x=If t v)(D:w.cell? (Aa q)=sT (Ii (u:Int)))(E:w.cell? (Ab q 1)=sT (Ii (i:Int)))(h:nQ w u p f)(k:w.cell? (Aa f)=sT (Sl (sT (Ab g o)) n cap))(l:i<n)(m:u<=1000000000)(r:n<=1000000000)(c:w.cell? (Ab g (o+i))=sT y)(d:∃t v,y=If t v)(s:w.frozen? (Ab g (o+i))=xN):Cp 285 #[.pointer p,x,bp q] w λe w'=>e=Rt (Tu #[])/\∃j,Bt w j/\w'=j.setCell (Ab g (o+i)) x:=by
 obtain⟨t,v,rfl⟩:=b;obtain⟨z,A,rfl⟩:=d;have B:=hZ (xR i h k l m r);clear h;delta Cp;go_in;go_wp2_with (go_at_call 257;refine iF B.o λw2 a=>?_;refine hO ?_);have F:w2.cell? (Ab g (o+i))=sT (If z A):=(cI a _).t ((aE (aC c) _).t c);have G:w2.frozen? (Ab g (o+i))=xN:=by simp only[UU,a.heap];have:=s;simp only[UU]at this;rw[eH _ _ _ (aC c)];exact this
 have C:=hZ a;clear a;refine hZ ?_;go_wp2;go_end0;exact⟨rfl,w2,Bo C.o ((Below.refl _ _).alloc (eR _) _),rfl⟩
theorem Am(i:∀args w,(callFunc k args).run prog w=.ok (.enter k args) w)(b:∀e w,Q e w->(∃v,e=Rt v)\/(∃c,e=Pk c))(d:∀w',Lk w w'->Cp k (#[If 241 (Ag #[])]++l0) w' Q):Cp 142 #[.pointer p,Ha k l0] w Q:=by obtain⟨f,g⟩:=aN d b;clear d b;delta Cp;go_in;go_wp2_with (go_at_fn k;refine(f.o _ Lq).mo ?_;intro e w3 a);all_goals first|exact a|exact⟨rfl,a⟩|(rcases g.o _ _ a with⟨v,h⟩|⟨c,h⟩<;>cases h)
theorem Ox{t:Nat}{v:Vu}(y:Vu)(a:w.cell? (Aa q)=sT (bp r))(b:w.cell? (Ab r 3)=sT y)(c:w.frozen? (Ab r 3)=xN):Cp 137 #[If t v,bp q] w λe w'=>e=Rt .nilFunc/\w'=w.setCell (Ab r 3) (If t v):=by delta Cp;go_in;go_wp2;go_ret;exact⟨rfl,rfl⟩
theorem Zr(d j l b a k:Nat)(t c:Int)(p:OA)(m:Array Vu)(w:Wd)(Q:En->Wd->Prop)(E:∀args w,(callFunc k args).run prog w=.ok (.enter k args) w)(o:∀e w,Q e w->(∃v,e=Rt v)\/(∃q,e=Pk q))(r:w.cell? (Aa d)=sT (bp b))(s:w.cell? (Ab b 1)=sT (bp a))(f:Mt a t c 11 w)(y:0<=t)(z:t+1<=c)(A:c<=1000000)(u:∀w',Lk (((w.setCell (Aa a) (Ii (t+1))).alloc (Cl #[.pointer p] 240)).alloc (Cl #[Ha 268 #[bp j,bp l,bp w.heap.size]] 166)) w'->Cp k (#[If 132 (bp (w.heap.size+1))]++m) w' Q):Cp 267 #[.pointer p,Ha k m,bp d,bp j,bp l] w Q:=by obtain⟨B,C⟩:=aN u o;have k1:∀x,(w.alloc x).cell? (Aa d)=sT (bp b):=λx=>(aE (aC r) x).t r;have F:∀x,(w.alloc x).cell? (Ab b 1)=sT (bp a):=λx=>(aE (aC s) x).t s;have g:=f.lt;have D:Hid (∀x,Cp 108 #[bp a,Ii 1] (w.alloc x) λe w'=>e=Rt (Tu #[])/\∃k,w'=((w.alloc x).setCell (Aa a) (Ii (t+1))).drewN k):=λx=>cZ t c 11 1 _ (by unfold Mt at*;rw[eH _ _ _ g];exact f) y z Om A;clear u o f;delta Cp;go_in;go_wp2_with (go_at_call 108;refine iC (D.o _) λn=>?_);go_wp2_with (go_at_fn k;refine(B.o _ Lq).mo ?_;intro e w3 i);all_goals first|exact i|exact⟨rfl,i⟩|(rcases C.o _ _ i with⟨v,h⟩|⟨q,h⟩<;>cases h)
theorem qcs{c:Prop}(h:c:=by
  go_wp2_with (go_at_call 108;refine(HT.o _).mo ?_;rintro e w2 ⟨rfl,hb⟩)
  refine⟨rfl,rfl,?_⟩;refine⟨hb.os,hb.tape,hb.output,by have:=hb.size;simp only[aL]at this|-;simp at this;omega,λc hc=>?_⟩;rw[hb.block c So,jU Om,eH _ _ _ (by simp only[aL];omega)]):c:=h
theorem Zq{t:Int}(c:w.cell? (Aa r)=sT (bp d2))(d:w.cell? (Ab d2 1)=sT (bp d3))(a:Mt d3 t t 11 w)(f:0<=t)(g:t<=1000000):Cp 267 #[.pointer p,Ha k l0,bp r,bp d0,bp d1] w λe w'=>e=Pk (aB (aD 11))/\Below w.heap.size (w.setCell (Aa d3) (Ii t)) w':=by have k1:∀x,(w.alloc x).cell? (Aa r)=sT (bp d2):=λx=>(aE (aC c) x).t c;have h:∀x,(w.alloc x).cell? (Ab d2 1)=sT (bp d3):=λx=>(aE (aC d) x).t d;have b:=a.lt;have HT:Hid (∀x,Cp 108 #[bp d3,Ii 1] (w.alloc x) λe w'=>e=Pk (aB (aD 11))/\Below (w.alloc x).heap.size ((w.alloc x).setCell (Aa d3) (Ii t)) w'):=λx=>dH t 1 _ (by unfold Mt at*;rw[eH _ _ _ b];exact a) f Om Om Om g;clear a;delta Cp;go_in;exact qcs
end
section
theorem Bw{sa:OA}(h b:Array Vu)(i:OA)(u:∀args w,(callFunc k args).run prog w=.ok (.enter k args) w)(x:∀args w,(callFunc d2 args).run prog w=.ok (.enter d2 args) w)(l:∀e w,Q e w->(∃v,e=Rt v)\/(∃j,e=Pk j))(m:∀v w',Q (Rt v) w'->w'.cell? (Aa r)=sT (Ha k h)/\w'.cell? (Aa d0)=sT (Ha d2 b)/\w'.cell? (Aa d1)=sT (.pointer i))(y:w.cell? (Aa r)=sT (Ha k h))(z:w.cell? (Aa d0)=sT (Ha d2 b))(A:w.cell? (Aa d1)=sT (.pointer i))(o:∀w0,Lk w w0->Cp d2 (#[Sl sa d4 sc]++b) w0 λe f=>(∃a n c,e=Rt (Sl a n c)/\(f.cell? (Aa r)=sT (Ha k h)/\f.cell? (Aa d0)=sT (Ha d2 b)/\f.cell? (Aa d1)=sT (.pointer i))/\∀w2,Lk (f.alloc (Cl #[Sl a n c,.pointer i] 324)) w2->Cp k (#[bp f.heap.size,Ha d3 l0]++h) w2 Q)\/((∃j,e=Pk j)/\Q e f)):Cp 268 #[Sl sa d4 sc,Ha d3 l0,bp r,bp d0,bp d1] w Q:=by obtain⟨q,s,t⟩:=cB o l m;clear o l m;delta Cp;go_in;go_wp2;go_region_held2 (λw'=>w'.cell? (Aa r)=sT (Ha k h)/\w'.cell? (Aa d0)=sT (Ha d2 b)/\w'.cell? (Aa d1)=sT (.pointer i)) (first|(exact t.o _ _ g)|(exact d.o.1)|(exact⟨(aE (aC d.o.1.1) _).t d.o.1.1,(aE (aC d.o.1.2.1) _).t d.o.1.2.1,(aE (aC d.o.1.2.2) _).t d.o.1.2.2⟩)|go_keep) (first|(go_at_fn d2;refine(q.o _ Lq).mo ?_;rintro e f (⟨a,n,c,rfl,p⟩|⟨⟨j,rfl⟩,g⟩);rotate_left;(exact⟨rfl,g⟩);have d:=hZ p;clear p)|(go_at_fn k;refine(d.o.2 _ Lq).mo ?_;intro e w3 g;rcases s.o _ _ g with⟨v,rfl⟩|⟨j,rfl⟩;rotate_left;(exact⟨rfl,g⟩)));all_goals (go_wp2;exact g)
theorem NP{r d0 d1 d2 n cap:Nat}{a:OA}{t:Int}(l:w.cell? (Aa r)=sT (Ii (n:Int)))(m:w.cell? (Aa d0)=sT (bp d1))(o:w.cell? (Ab d1 1)=sT (bp d2))(c:Mt d2 t A 11 w)(d:0<=t)(f:t+n<=A)(g:A<=1000000):Cp 253 #[Sl a n cap,bp r,bp d0] w λe w'=>e=Rt (Sl a n cap)/\Lk (w.setCell (Aa d2) (Ii (t+n))) w':=by
 have h:Hid (∀w',Lk w w'->Cp 108 #[bp d2,Ii (n:Int)] w' λe w2=>e=Rt (Tu #[])/\∃k,w2=(w'.setCell (Aa d2) (Ii (t+n))).drewN k):=λw' i=>cZ t A 11 n w' (by unfold Mt at*;rw[i.heap];exact c) d f Om g;clear c;have j:((n:Int)==(n:Int))=xA:=Sm;delta Cp;go_in;go_wp2_with (go_at_call 171;refine Ds jQ ?_);refine dE 5 Kr Kr ?_;simp only[WB,WD,WF,WG];repeat still_step
 refine wpStill_nil ?_;go_wp2_with (go_at_call 108;refine iC (h.o _ Lq) λk=>?_);go_wp2;go_ret;exact⟨rfl,⟨rfl,rfl,rfl,rfl⟩⟩
theorem NQ{r d0 n l cap:Nat}{a:OA}(c:w.cell? (Aa r)=sT (Ii (n:Int)))(d:l≠n):Cp 253 #[Sl a l cap,bp r,bp d0] w λe w'=>e=Pk (aB (aD 7))/\∃o,w'=w.alloc o:=by have b:((l:Int)==(n:Int))=xN:=So;delta Cp;go_in;exact qb9
theorem qcp{c:Prop}(h:c:=by
  refine dE 5 Kr Kr ?_;simp only[List.take_succ_cons,List.take_zero,List.drop_succ_cons,List.drop_zero];repeat still_step
  refine wpStill_nil ?_;go_wp2_with (go_at_call 108;refine(HT.o _ Lq).mo ?_;rintro e w2 ⟨rfl,hb⟩)
  exact⟨rfl,rfl,hb.os,hb.tape,hb.output,hb.size,hb.block⟩):c:=h
theorem NO{r d0 d1 d2 n cap:Nat}{a:OA}{t:Int}(k:w.cell? (Aa r)=sT (Ii (n:Int)))(l:w.cell? (Aa d0)=sT (bp d1))(m:w.cell? (Ab d1 1)=sT (bp d2))(d:Mt d2 t A 11 w)(f:0<=t)(g:A<t+n)(b:t<=A)(h:A<=1000000):Cp 253 #[Sl a n cap,bp r,bp d0] w λe w'=>e=Pk (aB (aD 11))/\Below w.heap.size (w.setCell (Aa d2) (Ii A)) w':=by have HT:Hid (∀w',Lk w w'->Cp 108 #[bp d2,Ii (n:Int)] w' λe w2=>e=Pk (aB (aD 11))/\Below w'.heap.size (w'.setCell (Aa d2) (Ii A)) w2):=λw' i=>dH t n w' (by unfold Mt at*;rw[i.heap];exact d) f g Om b h;clear d;have j:((n:Int)==(n:Int))=xA:=Sm;delta Cp;go_in;go_wp2_with (go_at_call 171;refine Ds jQ ?_);exact qcp
open Sc
structure Gh.ext (G H:Gh) (n:Nat):Prop where
 le:G.le H
 E:H.E=G.E
 B:H.B=G.B
 I:∀{b:Nat},b<n->H.I b=G.I b
 W:H.W=G.W
 F:H.F=G.F
theorem Gh.ext.refl(G:Gh)(n:Nat):G.ext G n:=⟨Gh.le.refl G,rfl,rfl,λ_=>rfl,rfl,rfl⟩
theorem Gh.ext.t{L:Gh}(a:G.ext H n)(b:H.ext L k)(h:n<=k):G.ext L n:=⟨a.le.t b.le,b.E.t a.E,b.B.t a.B,λc=>(b.I Om).t (a.I c),b.W.t a.W,b.F.t a.F⟩
theorem Gh.ext.mut(a:G.ext H n):H.mut=G.mut:=by simp only[Gh.mut,Gh.rows,a.le.mb,a.le.sb,a.le.cb,a.le.mp,a.E,a.B]
theorem Inv.ext_alloc(i:Inv G S m w)(o:Obj):G.ext (G.add w.heap.size o) w.heap.size:=⟨Gh.le_add (i.fresh (eR _)),rfl,rfl,fun {b} a=>if_neg Om,rfl,rfl⟩
theorem Inv.ext_newObj(i:Inv G S m w)(o:Obj):G.ext ((G.add w.heap.size o).id w.heap.size) w.heap.size:=⟨i.le_newObj o,rfl,rfl,fun {b} a=>if_neg Om,rfl,rfl⟩
theorem VRep.form{v:Vl}(h:VRep G v x):∃t y,x=If t y:=by cases h<;>exact⟨_,_,rfl⟩
def VsRep(G:Gh)(vs:List Vl)(xs:List Vu):Prop:=vs.length=xs.length/\∀(i:Nat) (v:Vl) (x:Vu),vs[i]? =sT v->xs[i]? =sT x->VRep G v x
theorem VsRep.mo(h:G.le H){vs:List Vl}(k:VsRep G vs xs):VsRep H vs xs:=⟨k.1,λi v x a b=>(k.2 i v x a b).mo h⟩
theorem qF(m:Mc)(v:Vl)(r:List Vl)(rest:Vl):bK m (v::r) rest=(.pair (bK m r rest).2.ids v (bK m r rest).1,{(bK m r rest).2 with ids:=(bK m r rest).2.ids+1}):=rfl
theorem qab{c:Prop}(h:c:=by
  obtain⟨fb,sv,pf,h1,h2,h3,h4⟩:=i.en hj;exact⟨fb,sv,pf,h1,h2,h3,h4.mo (Gh.le.refl _) λg o n cap hsv=>km (i.m6 (by rw[h1,hsv]))⟩):c:=h
theorem Inv.loose(i:Inv G S m w){v:Vu}(hI:G.I b=US)(f:b∉G.mut)(g:¬G.F b):Inv G S m (w.setCell ⟨b,o,US⟩ v):=by have k:∀c,c≠b->(w.setCell ⟨b,o,US⟩ v).heap[c]? =w.heap[c]?:=λc d=>aG (a:=⟨b,o,US⟩) c d;have km:∀{c:Nat},c∈G.mut->(w.setCell ⟨b,o,US⟩ v).heap[c]? =w.heap[c]?:=fun {c} d=>k c λe=>f (e▸d);refine⟨fun {c x} d=>by rw[k c λe=>by rw[e,hI]at d;cases d];exact i.imm d,i.nd,i.mi,λh=>by rw[aL];exact i.ml h,i.st.keep (km i.m2),i.ce.keep (km i.m3),i.sl,i.cl,by rw[km i.m1];exact i.ma,by rw[km i.m4];exact i.mp,fun {s c} h=>by rw[km (i.m5 h)];exact i.gl h,i.gd,i.gk,?_,i.el,i.jl,i.jn,i.ji,i.fo,fun {c} d=>by rw[k c λe=>g (e▸d),aL];exact i.ff d,i.fm,i.fi⟩;intro j vs e hj;exact qab
structure Kpr (K:Gh->Mc->Wd->Prop):Prop where
 imm:∀{G m w b o},K G m w->G.I b=sT o->w.heap[b]? =sT o
 below:∀{G m w w'},K G m w->Below w.heap.size w w'->K G m w'
 ml:∀{G m w b},K G m w->b∈G.mut\/G.F b->b<w.heap.size
 loose:∀{G m w b o v},K G m w->G.I b=sV->b∉G.mut->¬G.F b->K G m (w.setCell (Ab b o) v)
 new:∀{G m w} (o:Obj),K G m w->K ((G.add w.heap.size o).id w.heap.size) {m with ids:=m.ids+1} (w.alloc o)/\G.J.length=m.ids
theorem qcn:Kpr λG m w=>Inv G S m w:=⟨λi h=>i.imm h,λi h=>i.below h,λi h=>h.elim i.ml λh=>(i.ff h).2,λi a b c=>i.loose a b c,λo i=>⟨i.newObj o,i.jl⟩⟩
theorem Kpr.fresh(k:Kpr K)(i:K G m w)(a:w.heap.size<=b):G.I b=sV:=by rcases h:G.I b with _|o;rfl;have:=(eE.1 (k.imm i h)).1;omega
theorem Kpr.ext(k:Kpr K)(i:K G m w)(o:Obj):G.ext ((G.add w.heap.size o).id w.heap.size) w.heap.size:=⟨(Gh.le_add (k.fresh i (eR _))).t (Gh.le_id _ _),rfl,rfl,fun {b} a=>if_neg Om,rfl,rfl⟩
theorem TT{c:Prop}(h:c:=by
  rw[List.drop_eq_getElem_cons hjv,qF];refine .pair _ _ _ _ _ _ hat (Gh.add_at _ _ _) ?_ (HX.o.mo hle.le);have:=(HE.o.mo HLe.o.le).mo hle.le;rw[HVj.o]at this;exact this):c:=h
theorem qcm{vs:List Vl}(B:Kpr K)(w:Wd)(a:OA)(cap:Nat)(xs:List Vu)(rest:Vl)(r:Vu)(i:K G m w)(E:VsRep G vs xs)(F:VRep G rest r)(f:xs=[]\/∃g o,a=sT (Ab g o)/\∀(j:Nat) (h:j<xs.length),w.cell? (Ab g (o+j))=sT xs[j])(X:xs.length<=1000000):Cp 24 #[Sl a xs.length cap,r] w λe w'=>∃H x,e=Rt x/\G.ext H w.heap.size/\K H (bK m vs rest).2 w'/\VRep H (bK m vs rest).1 x/\Bt w w':=by
 obtain⟨C,Q,q,R⟩:=dT E F f i;clear E F f i;delta Cp;go_in;go_wp2;go_loopw [5,1] (λc x wr=>∃(k:Nat) (H:Gh),k<=xs.length/\c=Ii ((k:Int)-1)/\G.ext H w.heap.size/\K H (bK m (vs.drop k) rest).2 wr/\VRep H (bK m (vs.drop k) rest).1 x/\Bt w wr) (λc _ _=>(intOf c+1).toNat);case atStart=>(have I:vs.drop xs.length=[]:=by rw[<-C.o.1];simp);exact⟨xs.length,G,eR _,by first|rfl|go_num,Gh.ext.refl _ _,by rw[I];exact R.o,by rw[I];exact Q.o,Below.refl _ _⟩
 case round=>obtain⟨k,H,Y,rfl,hle,L,M,s⟩:=hrel;obtain⟨HX,t,HLe,d⟩:=dT M s hle L;clear M s hle L;by_cases S:0<k;(·obtain⟨j,rfl⟩:∃j,k=j+1:=⟨k-1,by omega⟩;have u:j<xs.length:=Om;have D:=q.o;rcases D with T|⟨g,o,rfl,N⟩;rw[T]at u;simp at u;have l:=N j u;have v:wr.cell? (Ab g (o+j))=sT xs[j]:=(t.o.cell (p:=Ab g (o+j)) (aC l)).t l;(have hjv:j<vs.length:=by rw[C.o.1];exact u);have HE:=hZ (C.o.2 j vs[j] xs[j] (eG hjv) (eG u));obtain⟨y,p,n⟩:=HE.o.form;obtain⟨b,z,rfl⟩:=HX.o.form;have HVj:=hZ n;rw[n]at v;clear l N n;have U:(j:Int)<(xs.length:Int):=Om;go_wp2;go_roundw;(case rel=>have V:=(B.new (Cl #[If y p,If b z] 109) d.o).1;have hle:=B.ext d.o (Cl #[If y p,If b z] 109);have hat:=Gh.id_at (H.add wr.heap.size (Cl #[If y p,If b z] 109)) wr.heap.size;rw[show(H.add wr.heap.size (Cl #[If y p,If b z] 109)).J.length=_ from(B.new (Cl #[If y p,If b z] 109) d.o).2]at hat;refine⟨j,_,by omega,by first|rfl|go_num,HLe.o.t hle t.o.size,?_,?_,t.o.alloc t.o.size _⟩;rw[WL hjv,qF];exact V;exact TT);case measure=>simp[intOf]);have A:k=0:=Om;have W:=hZ A;clear A;have Z:(k:Int)-1<0:=Om;go_wp2;go_ret;have O:=d.o;have P:=HX.o;rw[W.o,WG]at O P;exact⟨H,_,rfl,HLe.o,O,P,t.o⟩
theorem qM(G:Gh)(S:Sub)(m:Mc)(w:Wd)(a:OA)(cap:Nat)(vs:List Vl)(xs:List Vu)(rest:Vl)(r:Vu)(i:Inv G S m w)(c:VsRep G vs xs)(d:VRep G rest r)(b:xs=[]\/∃g o,a=sT (Ab g o)/\∀(j:Nat) (h:j<xs.length),w.cell? (Ab g (o+j))=sT xs[j])(f:xs.length<=1000000):Cp 24 #[Sl a xs.length cap,r] w λe w'=>∃H x,e=Rt x/\G.ext H w.heap.size/\Inv H S (bK m vs rest).2 w'/\VRep H (bK m vs rest).1 x/\Below w.heap.size w w':=qcm qcn w a cap xs rest r i c d b f
theorem NN{vs:List Vl}(w:Wd)(q n cap:Nat)(a:OA)(xs:List Vu)(i:Inv G S m w)(A:G.mbox q)(s:VsRep G vs xs)(C:xs.length=n)(b:xs=[]\/∃g o,a=sT (Ab g o)/\∀(j:Nat) (h:j<xs.length),w.cell? (Ab g (o+j))=sT xs[j])(t:∀g o,a=sT (Ab g o)->xs≠[]->g≠G.cb)(f:n<=1000000)(D:(m.cells:Int)+(1+n)<=S.quota):Cp 248 #[Sl a n cap,bp q] w λe w'=>∃H B x,e=Rt (Sl (sT (Aa B)) 1 1)/\G.ext H w.heap.size/\Inv H S (bK {m with cells:=m.cells+(1+n)} vs .nil).2 w'/\VRep H (bK {m with cells:=m.cells+(1+n)} vs .nil).1 x/\w'.heap[B]? =sT (Cl #[x] 63)/\w.heap.size<=B/\H.I B=sV:=by
 subst C;have u:w.cell? (Aa q)=sT (bp G.mb):=by rw[i.cell A];rfl
 obtain⟨Q,R,c,_⟩:=i.ma;have v:w.cell? (Ab G.mb 1)=sT (bp G.cb):=by simp[UT,c]
 have y:=cZ m.cells S.quota 11 (1+(xs.length:Int)) w i.ce Om D Om (by have:=i.cl.2;omega);have E:=hZ y;have l:=i.cells (m.cells+(1+xs.length)) (by push_cast;omega);have F:(((m.cells+(1+xs.length):Nat)):Int)=(m.cells:Int)+(1+(xs.length:Int)):=by push_cast;rfl
 rw[F]at l;have J:Hid (∀k,Cp 24 #[Sl a xs.length cap,If 86 (Ag #[])] ((w.setCell (Aa G.cb) (Ii ((m.cells:Int)+(1+(xs.length:Int))))).drewN k) λe w'=>∃H x,e=Rt x/\G.ext H w.heap.size/\Inv H S (bK {m with cells:=m.cells+(1+xs.length)} vs .nil).2 w'/\VRep H (bK {m with cells:=m.cells+(1+xs.length)} vs .nil).1 x/\Below w.heap.size (w.setCell (Aa G.cb) (Ii ((m.cells:Int)+(1+(xs.length:Int))))) w'):=λk=>by have p:((w.setCell (Aa G.cb) (Ii ((m.cells:Int)+(1+(xs.length:Int))))).drewN k).heap.size=w.heap.size:=aL;have:=qM G S {m with cells:=m.cells+(1+xs.length)} ((w.setCell (Aa G.cb) (Ii ((m.cells:Int)+(1+(xs.length:Int))))).drewN k) a cap vs xs .nil (If 86 (Ag #[])) (Inv.lk (w:=w.setCell (Aa G.cb) (Ii ((m.cells:Int)+(1+(xs.length:Int))))) Lq l) s .nil ?_ f;rw[p]at this;refine this.mo ?_;rintro e w' ⟨H,x,u,v,K,L,d⟩;exact⟨H,x,u,v,K,L,d.os,d.tape,d.output,d.size,d.block⟩;rcases b with h|⟨g,o,rfl,h⟩;exact .inl h;by_cases z:xs=[];exact .inl z;refine .inr ⟨g,o,rfl,λj M=>?_⟩;rw[gX,cJ (t g o rfl z)];exact h j M
 clear y l s b t i c;delta Cp;go_in;go_wp2_with (go_at_call 108;refine iC E.o λk=>?_);go_wp2_with (go_at_call 24;refine(J.o _).mo ?_;rintro e w2 ⟨H,x,rfl,r⟩;obtain⟨N,O,rfl⟩:=r.2.2.1.form;have P:=hZ r;clear r);go_wp2;go_ret;obtain⟨e1,e2,e3,e4⟩:=P.o;have p:w.heap.size<=w2.heap.size:=by have:=e4.size;simp only[aL]at this;exact this
 exact⟨H,w2.heap.size,If N O,rfl,e1,e2.below ((Below.refl _ _).alloc (eR _) _),e3,eN _ _,p,e2.fresh (eR _)⟩
theorem NM{cap:Nat}{a:OA}{t:Int}(j:w.cell? (Aa q)=sT (bp r))(k:w.cell? (Ab r 1)=sT (bp d0))(d:Mt d0 t A 11 w)(f:0<=t)(g:A<t+(1+n))(c:t<=A)(h:A<=1000000)(l:n<=1000000):Cp 248 #[Sl a n cap,bp q] w λe w'=>e=Pk (aB (aD 11))/\Below w.heap.size (w.setCell (Aa d0) (Ii A)) w':=by have i:=hZ (dH t (1+(n:Int)) w d f g Om c h);clear d;delta Cp;go_in;go_wp2_with (go_at_call 108;refine iF i.o λw2 b=>?_);exact⟨rfl,rfl,b.os,b.tape,b.output,b.size,b.block⟩
end
def mV(vd:Nat)(m:Mc):Vu:=If 115 (Ag #[Ii (vd:Int),Sg (if vd=14 then⟨m.raised.toArray⟩else⟨#[]⟩)])
structure Cnt (G:Gh) (S:Sub) (m:Mc) (w:Wd):Prop where
 st:Mt G.sb m.steps S.fuel 10 w
 ce:Mt G.cb m.cells S.quota 11 w
 fo:w.os=G.W.os/\w.tape=G.W.tape/\w.output=G.W.output
 ff:∀{b:Nat},G.F b->w.heap[b]? =G.W.heap[b]?
 mb:∃gv wp,w.heap[G.mb]? =sT (Cl #[bp G.sb,bp G.cb,.map (sT G.mp),gv,wp] 99)
structure Gh.up (G H:Gh):Prop where
 le:G.le H
 W:H.W=G.W
 F:H.F=G.F
theorem Gh.up.refl(G:Gh):G.up G:=⟨Gh.le.refl G,rfl,rfl⟩
theorem Gh.up.t{L:Gh}(a:G.up H)(b:H.up L):G.up L:=⟨a.le.t b.le,b.W.t a.W,b.F.t a.F⟩
theorem Gh.ext.up(h:G.ext H n):G.up H:=⟨h.le,h.W,h.F⟩
theorem Inv.cnt(i:Inv G S m w):Cnt G S m w:=⟨i.st,i.ce,i.fo,λh=>(i.ff h).1,by obtain⟨a,b,h,_⟩:=i.ma;exact⟨a,_,h⟩⟩
theorem Cnt.below(c:Cnt G S m w)(f:∀{b:Nat},G.F b->b<w.heap.size)(a:w.heap.size<=n)(h:Below n w w'):Cnt G S m w':=⟨c.st.keep (h.block _ (eW c.st.lt a)),c.ce.keep (h.block _ (eW c.ce.lt a)),by rw[h.os,h.tape,h.output];exact c.fo,fun {b} d=>by rw[h.block b (eW (f d) a)];exact c.ff d,by obtain⟨g,i,e⟩:=c.mb;exact⟨g,i,(h.block _ (eW (eE.1 e).1 a)).t e⟩⟩
theorem Inv.cntB(i:Inv G S m w)(a:w.heap.size<=n)(h:Below n w w'):Cnt G S m w':=i.cnt.below (λb=>(i.ff b).2) a h
theorem Cnt.up(h:G.up H)(c:Cnt H S m w):Cnt G S m w:=by obtain⟨a,b,d,e,f⟩:=c;rw[h.le.mb,h.le.sb,h.le.cb,h.le.mp]at f;rw[h.le.sb]at a;rw[h.le.cb]at b;rw[h.W]at d e;rw[h.F]at e;exact⟨a,b,d,e,f⟩
inductive NxRep (G:Gh) (h:Array Obj):Vl->List Vl->List Fr->Vu->Prop where
 |mk (f:Vl) (l:List Vl) (k:List Fr) (q1 q2 q3 b:Nat) (sv u:Vu) (h1:G.I q1=sT (Cl #[bp b] 132)) (h2:G.I q2=sT (Cl #[sv] 84)) (h3:G.I q3=sT (Cl #[u] 161))
   (hf:QRep G f b) (hl:LRow G h sv l) (hk:FRep G k u):NxRep G h f l k (.func (.func 208) #[] #[bp q1,bp q2,bp q3])
inductive Out (G:Gh) (S:Sub):Ct->Mc->En->Wd->Prop where
 |ap (f:Vl) (l:List Vl) (k:List Fr) (m:Mc) (w:Wd) (H:Gh) (x:Vu) (hu:G.up H) (hi:Inv H S m w) (hx:NxRep H w.heap f l k x):Out G S (.ap f l k) m (Rt x) w
 |done (v:Vl) (m:Mc) (w:Wd) (H:Gh) (x:Vu) (hu:G.up H) (hi:Inv H S m w) (hc:w.cell? (Ab H.mb 3)=sT x) (hx:VRep H v x):Out G S (.done v) m (Rt .nilFunc) w
 |stop (vd:Nat) (m:Mc) (w:Wd) (hc:Cnt G S m w):Out G S (.stop vd) m (Pk (aB (mV vd m))) w
theorem Out.up{G H:Gh}{S:Sub}{c:Ct}{m:Mc}{e:En}{w:Wd}(h:G.up H)(o:Out H S c m e w):Out G S c m e w:=by cases o with|ap f l k m w L x a b d=>exact .ap f l k m w L x (h.t a) b d|done v m w L x a b g d=>exact .done v m w L x (h.t a) b g d|stop i m w g=>exact .stop i m w (g.up h)
def Post(G:Gh)(S:Sub)(n:Nat)(c:Ct)(m:Mc)(e:En)(w:Wd):Prop:=∃j c' m',j<=n/\go S n c m=go S j c' m'/\Out G S c' m' e w
def Ct.ended:Ct->Bool
 | .done _=>xA
 | .stop _=>xA
 |_=>xN
theorem Post.ends{G:Gh}{S:Sub}{n:Nat}{c:Ct}{m:Mc}:∀e w,Post G S n c m e w->(∃v,e=Rt v)\/(∃a,e=Pk a):=by rintro e w ⟨j,c',b,_,_,o⟩;cases o with|ap=>exact .inl ⟨_,rfl⟩|done=>exact .inl ⟨_,rfl⟩|stop=>exact .inr ⟨_,rfl⟩
theorem Post.keeps{G:Gh}{S:Sub}{n:Nat}{c:Ct}{m:Mc}{v:Vu}{w:Wd}(h:Post G S n c m (Rt v) w){b:Nat}{o:Obj}(e:G.I b=sT o):w.heap[b]? =sT o:=by obtain⟨j,c',i,_,_,o⟩:=h;cases o with|ap f l k m w L x a d g=>exact d.imm (a.le.I e)|done v m w L x a d p g=>exact d.imm (a.le.I e)
theorem Post.cell{c:Ct}{v:Vu}(h:Post G S n c m (Rt v) w){t:Nat}(a:G.I b=sT (Cl #[x] t (0,0))):w.cell? (Aa b)=sT x:=by simp[UT,h.keeps a]
theorem Post.step{c c1:Ct}{m1:Mc}(a:Sc.next S c m=(c1,m1))(b:Ct.ended c=xN)(d:G.up H)(p:Post H S n c1 m1 e w):Post G S (n+1) c m e w:=by obtain⟨j,c',f,i,g,h⟩:=p;refine⟨j,c',f,by omega,?_,h.up d⟩;rw[<-g];cases c<;>first|(simp[Ct.ended]at b;done)|(simp only[go,a])
theorem Post.up{c:Ct}(a:G.up H)(p:Post H S n c m e w):Post G S n c m e w:=by obtain⟨j,c',b,d,f,g⟩:=p;exact⟨j,c',b,d,f,g.up a⟩
theorem Post.now{c:Ct}(o:Out G S c m e w):Post G S n c m e w:=⟨n,c,m,eR _,rfl,o⟩
def mT(x:Vu):Prop:=∃k cp,x=.func (.func k) #[] cp/\Eg k
theorem Ea:Eg 142:=aK func142 Kr Kr
theorem FZ:Eg 266:=aK func266 Kr Kr
theorem FW:Eg 269:=aK func269 Kr Kr
theorem GI:Eg 237:=aK func237 Kr Kr
theorem GD:Eg 256:=aK func256 Kr Kr
theorem GC:Eg 258:=aK func258 Kr Kr
theorem FP:Eg 283:=aK func283 Kr Kr
theorem vR:Eg 245:=aK func245 Kr Kr
theorem FY:Eg 267:=aK func267 Kr Kr
theorem GB:Eg 260:=aK func260 Kr Kr
theorem Eb:Eg 137:=aK func137 Kr Kr
theorem FO:Eg 284:=aK func284 Kr Kr
theorem GG:Eg 246:=aK func246 Kr Kr
theorem FV:Eg 270:=aK func270 Kr Kr
theorem FQ:Eg 281:=aK func281 Kr Kr
theorem GM:Eg 212:=aK func212 Kr Kr
theorem GL:Eg 213:=aK func213 Kr Kr
theorem GK:Eg 214:=aK func214 Kr Kr
theorem Dz:Eg 241:=aK func241 Kr Kr
theorem GH:Eg 243:=aK func243 Kr Kr
theorem GA:Eg 262:=aK func262 Kr Kr
theorem GE:Eg 253:=aK func253 Kr Kr
theorem GF:Eg 248:=aK func248 Kr Kr
theorem FN:Eg 285:=aK func285 Kr Kr
theorem FM:Eg 286:=aK func286 Kr Kr
theorem GJ:Eg 219:=aK func219 Kr Kr
theorem CRep.isF{G:Gh}{sh:List Nat}{e:Ex}{x:Vu}(h:CRep G sh e x):mT x:=by cases h with|step=>exact⟨_,_,rfl,FZ⟩
theorem ORep.isF{G:Gh}{sh:List Nat}{e:Option Ex}{x:Vu}(h:ORep G sh e x):mT x:=by cases h with|none=>exact⟨_,_,rfl,Ea⟩|some sh e x h=>exact h.isF
theorem SRep.isF{G:Gh}{sh:List Nat}{e:List Ex}{x:Vu}(h:SRep G sh e x):mT x:=by cases h with|one sh e x h=>exact h.isF|cons=>exact⟨_,_,rfl,FW⟩
theorem IRep.isF{G:Gh}{sh:List Nat}{e:Ex}{x:Vu}(h:IRep G sh e x):mT x:=by cases h with|quo=>exact⟨_,_,rfl,GI⟩|loc=>exact⟨_,_,rfl,GD⟩|glo=>exact⟨_,_,rfl,GC⟩|ite=>exact⟨_,_,rfl,FP⟩|setL=>exact⟨_,_,rfl,vR⟩|setG=>exact⟨_,_,rfl,vR⟩|defG=>exact⟨_,_,rfl,vR⟩|lam=>exact⟨_,_,rfl,FY⟩|app=>exact⟨_,_,rfl,GB⟩|seq sh a l y h=>exact h.isF
theorem FRep.isF{G:Gh}{k:List Fr}{x:Vu}(h:FRep G k x):mT x:=by cases h with|nil=>exact⟨_,_,rfl,Eb⟩|ite=>exact⟨_,_,rfl,FO⟩|set=>exact⟨_,_,rfl,GG⟩|body=>exact⟨_,_,rfl,FV⟩|app=>exact⟨_,_,rfl,FQ⟩|wind1=>exact⟨_,_,rfl,GM⟩|wind2=>exact⟨_,_,rfl,GL⟩|wind3=>exact⟨_,_,rfl,GK⟩|back=>exact⟨_,_,rfl,Dz⟩|into=>exact⟨_,_,rfl,GH⟩
theorem TRep.isF{G:Gh}{sh:List Nat}{t:Tg}{x:Vu}(h:TRep G sh t x):mT x:=by cases h with|loc=>exact⟨_,_,rfl,FN⟩|glo=>exact⟨_,_,rfl,FM⟩|def'=>exact⟨_,_,rfl,GJ⟩
def GT(w:Wd):Prop:=Lib.TabIs prog w "internal/strconv.uint64pow10" .u64 Lib.pow10Tab
theorem pow10_no:prog.globalNamed "internal/strconv.uint64pow10" =sT 3:=Kr
theorem GT.keep(h:GT w)(e:w'.heap[3]? =w.heap[3]?):GT w':=by unfold GT Lib.TabIs World.var? at*;rw[pow10_no]at h|-;simp only[Option.bind_some]at h|-;rw[e];exact h
def TabW(G:Gh):Prop:=(∀b,b<6->G.F b)/\GT G.W
theorem TabW.up(t:TabW G)(h:G.up H):TabW H:=by unfold TabW;rw[h.W,h.F];exact t
theorem TabW.now(t:TabW G)(i:Inv G S m w):GT w:=t.2.keep (i.ff (t.1 3 Om)).1
theorem TabW.six(t:TabW G)(i:Inv G S m w):6<=w.heap.size:=(i.ff (t.1 5 Om)).2
section
section
variable {G:Gh} {S:Sub} {m:Mc} {w:Wd}
theorem Inv.alloc2(i:Inv G S m w)(a o2:Obj):Inv ((G.add w.heap.size a).add (w.heap.size+1) o2) S m ((w.alloc a).alloc o2):=by have:=(i.alloc a).alloc o2;simpa using this
theorem Inv.alloc3(i:Inv G S m w)(a o2 b:Obj):Inv (((G.add w.heap.size a).add (w.heap.size+1) o2).add (w.heap.size+2) b) S m (((w.alloc a).alloc o2).alloc b):=by have:=(i.alloc2 a o2).alloc b;simpa using this
theorem Inv.alloc4(i:Inv G S m w)(a o2 b c:Obj):Inv ((((G.add w.heap.size a).add (w.heap.size+1) o2).add (w.heap.size+2) b).add (w.heap.size+3) c) S m ((((w.alloc a).alloc o2).alloc b).alloc c):=by have:=(i.alloc3 a o2 b).alloc c;simpa using this
theorem Inv.alloc5(i:Inv G S m w)(a o2 b c d:Obj):Inv (((((G.add w.heap.size a).add (w.heap.size+1) o2).add (w.heap.size+2) b).add (w.heap.size+3) c).add (w.heap.size+4) d) S m (((((w.alloc a).alloc o2).alloc b).alloc c).alloc d):=by have:=(i.alloc4 a o2 b c).alloc d;simpa using this
theorem Inv.x1(i:Inv G S m w)(a:Obj):G.ext (G.add w.heap.size a) w.heap.size:=i.ext_alloc a
theorem Inv.x2(i:Inv G S m w)(a o2:Obj):G.ext ((G.add w.heap.size a).add (w.heap.size+1) o2) w.heap.size:=by have:=(i.x1 a).t ((i.alloc a).ext_alloc o2) Sm;simpa using this
theorem Inv.x3(i:Inv G S m w)(a o2 b:Obj):G.ext (((G.add w.heap.size a).add (w.heap.size+1) o2).add (w.heap.size+2) b) w.heap.size:=by have:=(i.x2 a o2).t ((i.alloc2 a o2).ext_alloc b) So;simpa using this
theorem Inv.x4(i:Inv G S m w)(a o2 b c:Obj):G.ext ((((G.add w.heap.size a).add (w.heap.size+1) o2).add (w.heap.size+2) b).add (w.heap.size+3) c) w.heap.size:=by have:=(i.x3 a o2 b).t ((i.alloc3 a o2 b).ext_alloc c) So;simpa using this
theorem Inv.x5(i:Inv G S m w)(a o2 b c d:Obj):G.ext (((((G.add w.heap.size a).add (w.heap.size+1) o2).add (w.heap.size+2) b).add (w.heap.size+3) c).add (w.heap.size+4) d) w.heap.size:=by have:=(i.x4 a o2 b c).t ((i.alloc4 a o2 b c).ext_alloc d) So;simpa using this
end
theorem aM{c:Nat}{o:Obj}(h:c≠b):(G.add b o).I c=G.I c:=if_neg h
def fZ(S:Sub)(n:Nat):Prop:=∀(G:Gh) (m:Mc) (w:Wd) (sh:List Nat) (e:Ex) (env:Option Nat) (k:List Fr) (kx ku:Nat) (cx cu:Array Vu) (pf:OA),
 Inv G S m w->CRep G sh e (.func (.func kx) #[] cx)->NRep G env pf->Sh G sh pf->FRep G k (.func (.func ku) #[] cu)->Ct.ended (go S n (.ev e env k) m).1=xA->
 Cp kx (#[.pointer pf,.func (.func ku) #[] cu]++cx) w (Post G S n (.ev e env k) m)
def fI(S:Sub)(n:Nat):Prop:=∀(G:Gh) (m:Mc) (w:Wd) (v:Vl) (k:List Fr) (x:Vu) (ku:Nat) (cu:Array Vu),
 Inv G S m w->VRep G v x->FRep G k (.func (.func ku) #[] cu)->Ct.ended (go S n (.ret v k) m).1=xA->
 Cp ku (#[x]++cu) w (Post G S n (.ret v k) m)
theorem bX{c c1:Ct}{m1:Mc}(a:Sc.next S c m=(c1,m1))(b:Ct.ended c=xN):go S (n+1) c m=go S n c1 m1:=by cases c<;>first|(simp[Ct.ended]at b;done)|(simp only[go,a])
theorem Cx{S:Sub}:∀(n:Nat) {c:Ct} {m:Mc},Ct.ended c=xA->go S n c m=(c,m)
 |0,c,m,_=>rfl
 |n+1,c,m,h=>by cases c<;>first|(simp[Ct.ended]at h;done)|rfl
theorem pT{S:Sub}{n:Nat}{G:Gh}{m:Mc}{w:Wd}{sh:List Nat}{l:List Ex}{env:Option Nat}{k:List Fr}{o c:Nat}{q d:Array Vu}{b:OA}(s:fZ S n)(i:Inv G S m w)(v:SRep G sh l (Ha o q))(f:NRep G env b)(g:Sh G sh b)(t:FRep G k (Ha c d))(u:Ct.ended (go S n (iE l env k) m).1=xA):Cp o (#[.pointer b,Ha c d]++q) w (Post G S n (iE l env k) m):=by cases v with|one sh e x h=>exact s G m w sh e env k _ c _ d b i h f g t u|cons sh e a r F z x y A B h C=>obtain⟨k1,c1,rfl,j⟩:=h.isF;have D:=i.alloc2 (Cl #[.pointer b] 240) (Cl #[Ha c d] 161);have x2:=i.x2 (Cl #[.pointer b] 240) (Cl #[Ha c d] 161);refine Of c1 j Post.ends (by rw[i.cell A];rfl) ?_;intro w' E;refine Calls.mo (s _ m w' sh e env (.body (a::r) env::k) k1 270 c1 _ b (Inv.lk E D) (h.mo x2.le) (f.mo x2.le) (g.mo x2.le) (.body sh (a::r) env k z _ _ y (Ha c d) b (x2.le.I B) ?_ ?_ (C.mo x2.le) (f.mo x2.le) (g.mo x2.le) (t.mo x2.le)) u) ?_;rw[aM Om];exact Gh.add_at _ _ _;exact Gh.add_at _ _ _;exact λe w p=>p.up x2.up
end
section
section
variable {G:Gh} {S:Sub} {m:Mc} {w:Wd}
theorem Inv.mb0(i:Inv G S m w):w.cell? ⟨G.mb,0,US⟩=sT (.pointer (sT ⟨G.sb,0,US⟩)):=by obtain⟨a,b,h,_⟩:=i.ma;simp[UT,h]
theorem Inv.mb1(i:Inv G S m w):w.cell? ⟨G.mb,1,US⟩=sT (.pointer (sT ⟨G.cb,0,US⟩)):=by obtain⟨a,b,h,_⟩:=i.ma;simp[UT,h]
theorem Inv.mb3(i:Inv G S m w):∃x,w.cell? ⟨G.mb,3,US⟩=sT x:=by obtain⟨a,b,h,_⟩:=i.ma;exact⟨a,by simp[UT,h]⟩
theorem Inv.mbf(i:Inv G S m w)(o:Nat):w.frozen? ⟨G.mb,o,US⟩=xN:=by obtain⟨a,b,h,_⟩:=i.ma;simp[UU,h]
theorem Inv.ne(i:Inv G S m w){c:Nat}{o:Obj}(a:G.I b=sT o)(d:c∈G.mut):b≠c:=λe=>by subst e;rw[i.mi d]at a;cases a
theorem Inv.find(i:Inv G S m w):∀(u:Nat) {sh:List Nat} {env:Option Nat} {f:OA} {n:Nat},NRep G env f->Sh G sh f->sh[u]? =sT n->∃j b k vs e,oN m env u=sT j/\m.envs[j]? =sT (vs,e)/\G.E[j]? =sT (b,k)/\nQ w u f b/\w.cell? ⟨b,0,US⟩=sT k/\ERow G w.heap k vs/\vs.length=n
 |0,sh,env,f,n,hn,c,hu=>by cases c with|nil=>simp at hu|cons r sh b a cap q h c=>(obtain rfl:r=n:=by simpa using hu);cases hn with|some j s k d=>(have l:j<m.envs.length:=by rw[<-i.el];exact(eL.1 d).1);obtain⟨t,v,x,e1,e2,e3,e4⟩:=i.en (i:=j) (vs:=m.envs[j].1) (e:=m.envs[j].2) (eG l);rw[d]at e1;cases e1;have hI:=h.symm.t e2;cases hI;refine⟨j,b,Sl a r cap,m.envs[j].1,m.envs[j].2,rfl,eG l,d,rfl,by rw[i.cell e2];rfl,e4,?_⟩;rcases e4 with⟨D,L,p,y⟩|⟨g,o,p,F,y,_⟩;cases y;simp[D];cases y;rfl
 |u+1,sh,env,f,n,hn,c,hu=>by cases c with|nil=>simp at hu|cons r sh b a cap q h c=>cases hn with|some j s k d=>(have l:j<m.envs.length:=by rw[<-i.el];exact(eL.1 d).1);obtain⟨t,v,x,e1,e2,e3,e4⟩:=i.en (i:=j) (vs:=m.envs[j].1) (e:=m.envs[j].2) (eG l);rw[d]at e1;cases e1;have hI:=h.symm.t e2;cases hI;obtain⟨C,z,A,B,e5,k1,H,I,J,K⟩:=i.find u e3 c (by simpa using hu);refine⟨C,z,A,B,e5,?_,H,I,⟨b,q,rfl,by rw[i.cell e2];rfl,J⟩,K⟩;show oN m (m.envs[j]?.bind (·.2)) u=sT C;rw[eG l];exact k1
end
theorem My{S:Sub}{n:Nat}{G:Gh}{m:Mc}{w:Wd}{sh:List Nat}{e:Ex}{env:Option Nat}{k:List Fr}{o p:Nat}{q r:Array Vu}{s:OA}(i:Inv G S m w)(z:CRep G sh e (Ha o q))(a:¬(m.steps:Int)<S.fuel->Sc.next S (.ev e env k) m=(.stop 10,m))(h:∀d b f,Inv G S {m with steps:=m.steps+1} f->IRep G sh e (Ha d b)->(m.steps:Int)<S.fuel->Cp d (#[.pointer s,Ha p r]++b) f (Post G S (n+1) (.ev e env k) m)):Cp o (#[.pointer s,Ha p r]++q) w (Post G S (n+1) (.ev e env k) m):=by cases z with|step sh e C D y t u v=>by_cases c:(m.steps:Int)<S.fuel;obtain⟨d,b,rfl,g⟩:=v.isF;have j:=i.steps (m.steps+1) (by push_cast;omega);refine Lu b g Post.ends (by rw[i.cell t];rfl) i.mb0 (by rw[i.cell u];rfl) i.st Om Om (by have:=i.sl.2;omega) (i.ne u i.m2) ?_;intro f l;exact h d b f (Inv.lk l (by simpa using j)) v c;(have A:(m.steps:Int)=S.fuel:=by have:=i.sl.1;omega);have x:=i.st;rw[<-A]at x;refine Calls.mo (Lt (by rw[i.cell t];rfl) i.mb0 x Om (by have:=i.sl.2;omega)) ?_;rintro E w' ⟨rfl,B⟩;have j:=i.steps m.steps Om;exact Post.step (a c) rfl (Gh.up.refl G) (Post.now (.stop 10 m w' (j.cntB (by rw[aL];exact eR _) B)))
end
section
section
variable {S:Sub} {n:Nat} {G:Gh} {m:Mc} {w1:Wd} {sh:List Nat} {env:Option Nat} {k:List Fr} {ku:Nat} {cu:Array Vu} {pf:OA}
theorem Nc(f:fI S n)(i:Inv G S {m with steps:=m.steps+1} w1)(D:NRep G env pf)(E:Sh G sh pf)(A:FRep G k (Ha ku cu))(h:(m.steps:Int)<S.fuel){u j r q:Nat}(F:sh[u]? =sT r)(H:j<r)(B:G.I q=sT (Cl #[Ii (u:Int),Ii (j:Int)] 263))(J:u<=1000000000)(K:r<=1000000000)(l:Ct.ended (go S (n+1) (.ev (.loc u j) env k) m).1=xA):Cp 256 (#[.pointer pf,Ha ku cu]++#[bp q]) w1 (Post G S (n+1) (.ev (.loc u j) env k) m):=by
 obtain⟨W,L,X,vs,Y,M,N,Z,O,P,Q,C⟩:=i.find u D E F;have a:Sc.next S (.ev (.loc u j) env k) m=(.ret (lY {m with steps:=m.steps+1} env u j) k,{m with steps:=m.steps+1}):=by simp[Sc.next,Sc.step,h]
 rw[bX a rfl]at l;rcases Q with⟨rfl,_⟩|⟨g,o,cap,R,rfl,hne,T,U⟩;simp at C;omega;have b:j<vs.length:=Om;obtain⟨x,s,c⟩:=U j vs[j] (eG b);have d:lY {m with steps:=m.steps+1} env u j=vs[j]:=by unfold lY;rw[M];simp only[N];simp[b]
 obtain⟨kk,ck,v,z⟩:=A.isF;cases v;obtain⟨t,y,rfl⟩:=c.form;subst C;refine Xj q u j L g o vs.length cap t ku y pf cu w1 _ z Post.ends (by rw[i.cell B];rfl) (by rw[i.cell B];rfl) O P H J K (by simp[UT,T,s]) ?_;intro w' V;rw[d]at a l;exact Calls.mo (f G {m with steps:=m.steps+1} w' vs[j] k _ ku cu (i.below V) c A l) λe w p=>Post.step a rfl (Gh.up.refl G) p
theorem Ng(f:fI S n)(i:Inv G S {m with steps:=m.steps+1} w1)(l:FRep G k (Ha ku cu))(d:(m.steps:Int)<S.fuel)(r:G.I q=sT (Cl #[bp b] 185))(A:(s,b)∈G.B)(u:Ct.ended (go S (n+1) (.ev (.glo s) env k) m).1=xA):Cp 258 (#[.pointer pf,Ha ku cu]++#[bp q]) w1 (Post G S (n+1) (.ev (.glo s) env k) m):=by
 obtain⟨x,g,a⟩:=i.gl A;have z:w1.cell? (Aa b)=sT x:=by simp[UT,g]
 rcases hv:lookup s m.glob with _|v;have c:Sc.next S (.ev (.glo s) env k) m=(.stop 5,{m with steps:=m.steps+1}):=by simp[Sc.next,Sc.step,d,hv]
 have a:GVal G (lookup s m.glob) x:=a;rw[hv]at a;obtain rfl:x=.nilIface:=a;refine Calls.mo (CY (by rw[i.cell r];rfl) z) ?_;rintro e w ⟨rfl,o,rfl⟩;exact Post.step c rfl (Gh.up.refl G) (Post.now (.stop 5 _ _ (i.cntB (eR _) ((Below.refl _ _).alloc (eR _) _))));have c:Sc.next S (.ev (.glo s) env k) m=(.ret v k,{m with steps:=m.steps+1}):=by simp[Sc.next,Sc.step,d,hv]
 rw[bX c rfl]at u;have a:GVal G (lookup s m.glob) x:=a;rw[hv]at a;have a:VRep G v x:=a;obtain⟨t,y,rfl⟩:=a.form;obtain⟨D,E,h,j⟩:=l.isF;cases h;refine CX j Post.ends (by rw[i.cell r];rfl) z ?_;intro w' C;exact Calls.mo (f G _ w' v k _ ku cu (Inv.lk C i) a l u) λe w p=>Post.step c rfl (Gh.up.refl G) p
theorem Nf(b:fZ S n)(i:Inv G S {m with steps:=m.steps+1} w1)(j:NRep G env pf)(l:Sh G sh pf)(s:FRep G k (Ha ku cu))(d:(m.steps:Int)<S.fuel){c t:Ex}{e:Option Ex}{f:Vu}(u:G.I r=sT (Cl #[Y] 144))(v:G.I d0=sT (Cl #[Z] 144))(x:G.I d1=sT (Cl #[f] 144))(o:CRep G sh c Y)(y:CRep G sh t f)(g:ORep G sh e Z)(q:Ct.ended (go S (n+1) (.ev (.ite c t e) env k) m).1=xA):Cp 283 (#[.pointer pf,Ha ku cu]++#[bp r,bp d0,bp d1]) w1 (Post G S (n+1) (.ev (.ite c t e) env k) m):=by
 have a:Sc.next S (.ev (.ite c t e) env k) m=(.ev c env (.ite t e env::k),{m with steps:=m.steps+1}):=by simp[Sc.next,Sc.step,d]
 rw[bX a rfl]at q;obtain⟨k1,c1,rfl,h⟩:=o.isF;have z:=i.alloc2 (Cl #[.pointer pf] 240) (Cl #[Ha ku cu] 161);have x2:=i.x2 (Cl #[.pointer pf] 240) (Cl #[Ha ku cu] 161);refine BU c1 h Post.ends (by rw[i.cell u];rfl) ?_;intro w' A;refine Calls.mo (b _ _ w' sh c env (.ite t e env::k) k1 284 c1 _ pf (Inv.lk A z) (o.mo x2.le) (j.mo x2.le) (l.mo x2.le) (.ite sh t e env k d0 _ _ d1 Z f (Ha ku cu) pf (x2.le.I v) ?_ ?_ (x2.le.I x) (y.mo x2.le) (g.mo x2.le) (j.mo x2.le) (l.mo x2.le) (s.mo x2.le)) q) ?_;rw[aM Om];exact Gh.add_at _ _ _;exact Gh.add_at _ _ _;exact λe w p=>Post.step a rfl x2.up p
theorem sL(c:fZ S n)(i:Inv G S {m with steps:=m.steps+1} w1)(f:NRep G env pf)(g:Sh G sh pf)(l:FRep G k (Ha ku cu)){e a:Ex}{t:Tg}{xs:Vu}(b:Sc.next S (.ev e env k) m=(.ev a env (.set t env::k),{m with steps:=m.steps+1}))(o:G.I r=sT (Cl #[Y] 144))(q:G.I d0=sT (Cl #[xs] 281))(h:CRep G sh a Y)(s:TRep G sh t xs)(j:Ct.ended (go S (n+1) (.ev e env k) m).1=xA):Cp 245 (#[.pointer pf,Ha ku cu]++#[bp r,bp d0]) w1 (Post G S (n+1) (.ev e env k) m):=by rw[bX b rfl]at j;obtain⟨k1,c1,rfl,d⟩:=h.isF;have u:=i.alloc2 (Cl #[.pointer pf] 240) (Cl #[Ha ku cu] 161);have x2:=i.x2 (Cl #[.pointer pf] 240) (Cl #[Ha ku cu] 161);refine set1 r d0 pf ku cu k1 c1 w1 _ d Post.ends (by rw[i.cell o];rfl) ?_;intro w' v;refine Calls.mo (c _ _ w' sh a env (.set t env::k) k1 246 c1 _ pf (Inv.lk v u) (h.mo x2.le) (f.mo x2.le) (g.mo x2.le) (.set sh t env k d0 _ _ xs (Ha ku cu) pf (x2.le.I q) ?_ ?_ (s.mo x2.le) (f.mo x2.le) (g.mo x2.le) (l.mo x2.le)) j) ?_;rw[aM Om];exact Gh.add_at _ _ _;exact Gh.add_at _ _ _;exact λe w p=>Post.step b rfl x2.up p
theorem Mz(c:fZ S n)(i:Inv G S {m with steps:=m.steps+1} w1)(g:NRep G env pf)(j:Sh G sh pf)(o:FRep G k (Ha ku cu))(d:(m.steps:Int)<S.fuel){a:Ex}(h:SRep G sh (a::l) (Ha r l0))(f:Ct.ended (go S (n+1) (.ev (.seq a l) env k) m).1=xA):Cp r (#[.pointer pf,Ha ku cu]++l0) w1 (Post G S (n+1) (.ev (.seq a l) env k) m):=by
 have b:Sc.next S (.ev (.seq a l) env k) m=(iE (a::l) env k,{m with steps:=m.steps+1}):=by simp[Sc.next,Sc.step,d]
 rw[bX b rfl]at f;exact Calls.mo (pT c i h g j o f) λe w p=>Post.step b rfl (Gh.up.refl G) p
theorem RL{c:Prop}(h:c:=by
  rw[aM Om,aM Om,aM Om,aM Om];exact Gh.add_at _ _ _):c:=h
theorem Ni(h:fZ S n)(i:Inv G S {m with steps:=m.steps+1} w1)(y:NRep G env pf)(z:Sh G sh pf)(H:FRep G k (Ha ku cu))(j:(m.steps:Int)<S.fuel){f:Ex}{l:List Ex}{c A:Nat}{sl:Vu}{xs:List Vu}(B:G.mbox c)(J:G.I A=sT (Cl #[sl] 294))(q:xs.length<=90000)(K:RowI G 144 sl xs)(M:XRep G sh (f::l) xs)(C:Ct.ended (go S (n+1) (.ev (.app f l) env k) m).1=xA):Cp 260 (#[.pointer pf,Ha ku cu]++#[bp c,bp A]) w1 (Post G S (n+1) (.ev (.app f l) env k) m):=by
 have d:Sc.next S (.ev (.app f l) env k) m=(.ev f env (.app [] l env::k),{m with steps:=m.steps+1}):=by simp[Sc.next,Sc.step,j]
 rw[bX d rfl]at C;cases M with|cons sh f l U xs D N=>obtain⟨g,o,cap,r,rfl,E,O,P,a⟩:=K;obtain⟨k1,c1,rfl,s⟩:=D.isF;have Q:=i.alloc (Cl #[Ha ku cu] 161);have x1:=i.x1 (Cl #[Ha ku cu] 161);refine OS G.mb g o (xs.length+1) cap Post.ends (by rw[i.cell B];rfl) (by rw[i.cell J];rfl) ?_;intro w' F;have b:=Inv.lk F Q;(have R:w'.heap.size=w1.heap.size+1:=by rw[F.heap];simp);(have t:w'.cell? (Ab g o)=sT (Ha k1 c1):=by rw[b.cell (x1.le.I E)];exact a 0 _ rfl);have T:=b.alloc5 (Cl #[bp G.mb] 89) (Cl #[Sl (sT (Ab g o)) (xs.length+1) cap] 294) (Cl #[.pointer pf] 240) (Cl #[.pointer sV] 333) (Cl #[Ha 262 #[bp c,bp w1.heap.size]] 315);have u:=b.x5 (Cl #[bp G.mb] 89) (Cl #[Sl (sT (Ab g o)) (xs.length+1) cap] 294) (Cl #[.pointer pf] 240) (Cl #[.pointer sV] 333) (Cl #[Ha 262 #[bp c,bp w1.heap.size]] 315);refine Db xs.length c1 s Post.ends t ?_;intro v x;have L:=x1.le.t u.le;refine Calls.mo (h _ _ v sh f env (.app [] l env::k) k1 281 c1 _ pf (Inv.lk x T) (D.mo L) (y.mo L) (z.mo L) (.app sh [] l env k _ _ _ _ _ c w1.heap.size (Sl (sT (Ab g o)) (xs.length+1) cap) (Ha k1 c1) (Ha ku cu) xs pf sV ?_ ?_ ?_ ?_ ?_ ?_ ?_ (by simp at q|-;omega) ?_ (N.mo L) .nil (y.mo L) (z.mo L) (H.mo L)) C) ?_;show _=sT (Obj.cells #[bp G.mb] 89);exact RL;rw[aM Om,aM Om,aM Om];exact Gh.add_at _ _ _;rw[aM Om,aM Om];exact Gh.add_at _ _ _;rw[aM Om];exact Gh.add_at _ _ _;exact Gh.add_at _ _ _;exact L.mbox B;exact u.le.I (Gh.add_at _ _ _);exact⟨g,o,cap,r,rfl,L.I E,O,P,a⟩;exact λe w p=>Post.step d rfl (x1.up.t u.up) p
end
end
section
section
variable {G:Gh} {S:Sub} {m:Mc} {w:Wd}
theorem Inv.setEnv(i:Inv G S m w){cap a:Nat}{vs:List Vl}{e:Option Nat}{v:Vl}(t:G.E[j]? =sT (r,Sl (sT (Ab g o)) (n+1) cap))(hm:m.envs[j]? =sT (vs,e))(hl:vs.length=n+1)(ha:a<n+1)(hv:VRep G v x):Inv G S {m with envs:=m.envs.modify j λ(l,u)=>(l.set a v,u)} (w.setCell (Ab g (o+a)) x):=by
 have f:=i.lateE t;refine i.turn (i.m6 t) (λc D=>aG c D) aL ⟨rfl,rfl,rfl⟩ (i.st.keep (aG _ (Ne.symm f.2.1))) (i.ce.keep (aG _ (Ne.symm f.2.2.1))) i.sl.1 i.cl.1 (by rw[aG (a:=Ab g (o+a)) _ (Ne.symm f.1)];exact i.ma) (by rw[aG (a:=Ab g (o+a)) _ (Ne.symm f.2.2.2)];exact i.mp) (i.glKeep (λc D=>aG c D) λs c h e=>?_) i.gd ?_ (by simp only[List.length_modify];exact i.el) i.jl;have e:c=g:=e;subst e;exact(VX.1 i.nd2).2.2 _ (VT.2 ⟨_,h,rfl⟩) _ (oR t) rfl;intro A F e' d;have d:(m.envs.modify j λ(l,u)=>(l.set a v,u))[A]? =sT (F,e'):=d;by_cases B:j=A;subst B;rw[WM]at d;simp only[if_true,hm]at d;cases d;obtain⟨H,I,C,e1,e2,e3,e4⟩:=i.en hm;rw[t]at e1;cases e1;refine⟨r,_,C,t,e2,e3,?_⟩;rcases e4 with⟨R,_⟩|⟨z,o',cap',J,R,h2,h3,h4⟩;subst R;simp at hl;have T:g=z/\o=o'/\n+1=vs.length/\cap=cap':=by simpa[and_assoc]using R
 obtain⟨rfl,rfl,_,rfl⟩:=T;have U:o+a<J.size:=by obtain⟨y,hy,_⟩:=h4 a vs[a] (eG Om);exact(eE.1 hy).1
 refine .inr ⟨g,o,cap,J.setIfInBounds (o+a) x,by simp;omega,by intro e;apply h2;simpa using congrArg WN e,?_,?_⟩;simp[UV,UX,h3];intro b u k;by_cases K:a=b;subst K;rw[List.getElem?_set]at k;simp only[if_true]at k;rw[if_pos Om]at k;cases k;exact⟨x,by simp[U],hv⟩;rw[List.getElem?_set_ne K]at k;obtain⟨y,V,W⟩:=h4 b u k;exact⟨y,by rw[Array.getElem?_setIfInBounds_ne Om];exact V,W⟩;rw[WM]at d;have X:m.envs[A]? =sT (F,e'):=by rcases hx:m.envs[A]? with _|p;rw[hx]at d;simp at d;rw[hx]at d;simpa[B]using d
 obtain⟨H,I,C,e1,e2,e3,e4⟩:=i.en X;refine⟨H,I,C,e1,e2,e3,e4.mo (Gh.le.refl _) λz o' n' cap' Y=>aG (a:=Ab g (o+a)) z λZ=>?_⟩;have Z:z=g:=Z;subst Z;subst Y;have M:=(VX.1 i.nd2).2.1;have a0:j<G.E.length:=(eL.1 t).1;have a1:A<G.E.length:=(eL.1 e1).1;have N:∀(L:List (Nat×Vu)) (p q:Nat) (b c:Nat×Vu),p<q->L[p]? =sT b->L[q]? =sT c->z∈fU b.2->z∈fU c.2->¬(L.flatMap λx=>fU x.2).Nodup:=by intro L;induction L with|nil=>intro p q b c _ h;simp at h|cons y O ih=>intro p q b c a2 P Q k D hn;rw[List.flatMap_cons,VX]at hn;cases q with|zero=>omega|succ q=>(have Q:O[q]? =sT c:=by simpa using Q);cases p with|zero=>(have P:y=b:=by simpa using P);subst P;exact hn.2.2 z k z (List.mem_flatMap.2 ⟨c,YP Q,D⟩) rfl|succ p=>exact ih p q b c Om (by simpa using P) Q k D hn.2.1
 rcases Nat.lt_or_gt_of_ne B with hlt'|hlt';exact N G.E j A _ _ hlt' t e1 (by simp[fU]) (by simp[fU]) M;exact N G.E A j _ _ hlt' e1 t (by simp[fU]) (by simp[fU]) M
end
theorem VRep.proc_iff{G:Gh}{v:Vl}{t:Nat}{y:Vu}(h:VRep G v (If t y)):eZ v=decide (t=132):=by cases h with|proc v b h=>cases h<;>rfl|_=>rfl
theorem kT{S:Sub}{n:Nat}(G:Gh)(m:Mc)(w:Wd)(f:Vl)(l:List Vl)(k:List Fr)(x:Vu)(sa:OA)(h sc j:Nat)(p:Array Vu)(i:Inv G S m w)(s:VRep G f x)(P:LRow G w.heap (Sl sa h sc) l)(Q:FRep G k (Ha j p)):Cp 181 #[bp G.mb,x,Sl sa h sc,Ha j p] w (Post G S n (bT S f l k m).1 (bT S f l k m).2):=by
 by_cases d:(m.steps:Int)<S.fuel;have c:=i.steps (m.steps+1) (by push_cast;omega);obtain⟨t,y,rfl⟩:=s.form;by_cases A:t=132;subst A;have r:bT S f l k m=(.ap f l k,{m with steps:=m.steps+1}):=by simp[bT,Sc.step,d,s.proc_iff]
 rw[r];cases s with|proc v b R=>refine Calls.mo (OI i.mb0 i.st Om Om (by have:=i.sl.2;omega)) ?_;rintro e w' ⟨rfl,K⟩;(have c:Inv G S {m with steps:=m.steps+1} (w.setCell (Aa G.sb) (Ii ((m.steps:Int)+1))):=by simpa using c);have L:=c.alloc3 (Cl #[Sl sa h sc] 84) (Cl #[Ha j p] 161) (Cl #[bp b] 132);have x4:=c.x3 (Cl #[Sl sa h sc] 84) (Cl #[Ha j p] 161) (Cl #[bp b] 132);rw[aL]at L x4;refine Post.now (.ap f l k _ w' _ _ x4.up (Inv.lk K L) (.mk f l k (w.heap.size+2) w.heap.size (w.heap.size+1) b (Sl sa h sc) (Ha j p) ?_ ?_ ?_ (R.mo x4.le) ?_ (Q.mo x4.le)));exact Gh.add_at _ _ _;rw[aM Om,aM Om];exact Gh.add_at _ _ _;rw[aM Om];exact Gh.add_at _ _ _;rcases P with⟨B,C⟩|⟨g,o,cap,D,B,C,T,U,M,N,V,W,X⟩;exact .inl ⟨B,C⟩;have E:g<w.heap.size:=(eE.1 M).1;have H:g≠G.sb:=λe=>N (e▸i.m2);refine .inr ⟨g,o,cap,D,B,C,T,U,?_,by rw[x4.mut];exact N,by rw[x4.I E];exact V,by rw[x4.F];exact W,λq u Y=>?_⟩;rw[K.heap,eH _ _ _ So,eH _ _ _ So,eH _ _ _ So,aG (a:=Aa G.sb) g H];exact M;obtain⟨z,Z,z2⟩:=X q u Y;exact⟨z,Z,z2.mo x4.le⟩
 have r:bT S f l k m=(.stop 6,{m with steps:=m.steps+1}):=by simp[bT,Sc.step,d,s.proc_iff,A]
 rw[r];refine Calls.mo (OJ i.mb0 i.st Om Om (by have:=i.sl.2;omega) A) ?_;rintro e w' ⟨rfl,J⟩;have c:Inv G S {m with steps:=m.steps+1} (w.setCell (Aa G.sb) (Ii ((m.steps:Int)+1))):=by simpa using c
 exact Post.now (.stop 6 _ _ (c.cntB (by rw[aL];exact eR _) J));have r:bT S f l k m=(.stop 10,m):=by simp[bT,Sc.step,d]
 rw[r];have hm:(m.steps:Int)=S.fuel:=by have:=i.sl.1;omega
 have O:=i.st;rw[<-hm]at O;refine Calls.mo (OH i.mb0 O Om (by have:=i.sl.2;omega)) ?_;rintro e w' ⟨rfl,J⟩;have c:=i.steps m.steps Om;exact Post.now (.stop 10 _ _ (c.cntB (by rw[aL];exact eR _) J))
end
section
theorem HRep.chn{G:Gh}{S:Sub}{m:Mc}{w:Wd}(i:Inv G S m w):∀{vs:List Vl} {p:OA},HRep G vs p->∃xs,Chn w xs p/\VsRep G vs xs
 |_,_,.nil=>⟨[],rfl,rfl,λj v x h=>by simp at h⟩
 |_,_,.cons v r b x pd hb hv hr=>by obtain⟨xs,e,a⟩:=HRep.chn i hr;refine⟨x::xs,⟨b,pd,rfl,by rw[<-a.1];exact i.imm hb,e⟩,by simp[a.1],?_⟩;intro j u y c d;cases j with|zero=>simp at c d;subst c;subst d;exact hv|succ j=>exact a.2 j u y (by simpa using c) (by simpa using d)
theorem Chn.gsize{w:Wd}:∀{xs:List Vu} {p:OA},Chn w xs p->nS w p (xs.length:Int)
 |[],_,h=>.inl ⟨h,rfl⟩
 |x::r,_,⟨b,q,e1,e2,_⟩=>.inr ⟨b,e1,by simp[UT,e2]⟩
section
variable {S:Sub} {n:Nat} {G:Gh} {m:Mc} {w:Wd} {v:Vl} {x:Vu} {k:List Fr}
theorem Qd(i:Inv G S m w)(b:VRep G v x)(c:G.mbox q):Cp 137 (#[x]++#[bp q]) w (Post G S (n+1) (.ret v []) m):=by obtain⟨t,y,rfl⟩:=b.form;obtain⟨z,d⟩:=i.mb3;refine Calls.mo (Ox z (by rw[i.cell c];rfl) d (i.mbf 3)) ?_;rintro e w' ⟨rfl,rfl⟩;refine Post.step (c1:=.done v) (m1:=m) (by simp[Sc.next]) rfl (Gh.up.refl G) (Post.now (.done v m _ G (If t y) (Gh.up.refl G) (i.given _) ?_ b));obtain⟨f,g,a,_⟩:=i.ma;simp[UT,UV,UX,a]
theorem Qe(f:fZ S n)(z:fI S n)(i:Inv G S m w)(A:VRep G v x){sh:List Nat}{t:Ex}{e:Option Ex}{env:Option Nat}{B C D E:Nat}{N O u:Vu}{c:OA}(W:G.I B=sT (Cl #[N] 144))(X:G.I C=sT (Cl #[.pointer c] 240))(Y:G.I D=sT (Cl #[u] 161))(Z:G.I E=sT (Cl #[O] 144))(P:CRep G sh t O)(g:ORep G sh e N)(Q:NRep G env c)(R:Sh G sh c)(r:FRep G k u)(d:Ct.ended (go S (n+1) (.ret v (.ite t e env::k)) m).1=xA):Cp 284 (#[x]++#[bp B,bp C,bp D,bp E]) w (Post G S (n+1) (.ret v (.ite t e env::k)) m):=by
 obtain⟨j,l,rfl,F⟩:=r.isF;obtain⟨H,J,rfl,o⟩:=P.isF;obtain⟨T,U,rfl,K⟩:=g.isF;obtain⟨ty,y,rfl⟩:=A.form;have c1:w.cell? (Aa B)=sT (Ha T U):=by rw[i.cell W];rfl
 have c2:w.cell? (Aa C)=sT (.pointer c):=by rw[i.cell X];rfl
 have c3:w.cell? (Aa D)=sT (Ha j l):=by rw[i.cell Y];rfl
 have c4:w.cell? (Aa E)=sT (Ha H J):=by rw[i.cell Z];rfl
 by_cases V:v=.bool xN;subst V;cases A with|bool b=>refine BS K Post.ends c1 c2 c3 ?_;intro w' s;(cases g with|none=>have a:Sc.next S (.ret (.bool xN) (.ite t sV env::k)) m=(.ret .none k,m):=rfl;rw[bX a rfl]at d;refine Am F Post.ends ?_;intro L M;exact Calls.mo (z G m L .none k _ j l (Inv.lk M (Inv.lk s i)) .none r d) λe w p=>Post.step a rfl (Gh.up.refl G) p|some sh e x hc=>have a:Sc.next S (.ret (.bool xN) (.ite t (sT e) env::k)) m=(.ev e env k,m):=rfl;rw[bX a rfl]at d;exact Calls.mo (f G m w' sh e env k T j U l c (Inv.lk s i) hc Q R r d) λe w p=>Post.step a rfl (Gh.up.refl G) p)|proc v b h=>cases h
 have a:Sc.next S (.ret v (.ite t e env::k)) m=(.ev t env k,m):=by unfold Sc.next;split<;>simp_all
 rw[bX a rfl]at d;have go:∀w',Lk w w'->Cp H (#[.pointer c,Ha j l]++J) w' (Post G S (n+1) (.ret v (.ite t e env::k)) m):=λw' s=>Calls.mo (f G m w' sh t env k H j J l c (Inv.lk s i) P Q R r d) λe w p=>Post.step a rfl (Gh.up.refl G) p;by_cases q:ty=81;subst q;cases A with|bool b=>cases b with|false=>exact absurd rfl V|true=>exact BR o Post.ends c4 c2 c3 go
 exact BT o Post.ends c4 c2 c3 q go
theorem Qg(b:fZ S n)(i:Inv G S m w){l:List Ex}{env:Option Nat}{u:Vu}(h:G.I r=sT (Cl #[Y] 144))(j:G.I d0=sT (Cl #[.pointer k0] 240))(o:G.I d1=sT (Cl #[u] 161))(d:SRep G sh l Y)(q:NRep G env k0)(s:Sh G sh k0)(f:FRep G k u)(g:Ct.ended (go S (n+1) (.ret v (.body l env::k)) m).1=xA):Cp 270 (#[x]++#[bp r,bp d0,bp d1]) w (Post G S (n+1) (.ret v (.body l env::k)) m):=by obtain⟨t,y,rfl,z⟩:=f.isF;obtain⟨C,A,rfl,c⟩:=d.isF;have a:Sc.next S (.ret v (.body l env::k)) m=(iE l env k,m):=rfl;rw[bX a rfl]at g;refine Oe k0 t y A c Post.ends (by rw[i.cell h];rfl) (by rw[i.cell j];rfl) (by rw[i.cell o];rfl) ?_;intro w' B;exact Calls.mo (pT b (Inv.lk B i) d q s f g) λe w p=>Post.step a rfl (Gh.up.refl G) p
end
end
section
theorem VsRep.reverse{vs:List Vl}(h:VsRep G vs xs):VsRep G vs.reverse xs.reverse:=by
 refine⟨by simp[h.1],λj v x a b=>?_⟩;have c:j<vs.length:=by simpa using (eL.1 a).1
 rw[WP c]at a;rw[WP (by rw[<-h.1];exact c),<-h.1]at b;exact h.2 _ v x a b
section
variable {S:Sub} {n:Nat} {G:Gh} {m:Mc} {w:Wd} {v:Vl} {x:Vu} {k:List Fr}
theorem Qi(b1:fZ S n)(i:Inv G S m w)(hv:VRep G v x){vs:List Vl}{l:List Ex}{env:Option Nat}{A:Nat}{sl Y u:Vu}(h1:G.mbox r)(h2:G.I d0=sT (Cl #[sl] 294))(h3:G.I d1=sT (Cl #[.pointer k0] 240))(h4:G.I d2=sT (Cl #[.pointer k1] 333))(h5:G.I d3=sT (Cl #[.func (.func 262) #[] #[bp d4,bp A]] 315))(h6:G.mbox d4)(h7:G.I A=sT (Cl #[u] 161))(hb:vs.length+xs.length<=90000)(hr:RowI G 144 sl (Y::xs))(hx:XRep G sh l xs)(hc:HRep G vs.reverse k1)(hn:NRep G env k0)(hs:Sh G sh k0)(hk:FRep G k u)(he:Ct.ended (go S (n+1) (.ret v (.app vs l env::k)) m).1=xA):Cp 281 (#[x]++#[bp r,bp d0,bp d1,bp d2,bp d3]) w (Post G S (n+1) (.ret v (.app vs l env::k)) m):=by
 obtain⟨ku,cu,rfl,c0⟩:=hk.isF;obtain⟨ty,y,rfl⟩:=hv.form;obtain⟨g,o,cap,T,rfl,hg,V,hm,W⟩:=hr;obtain⟨cs,b2,b3⟩:=hc.chn i;have b4:cs.length=vs.length:=by rw[<-b3.1];simp
 have i1:=i.alloc (Cl #[If ty y,.pointer k1,Ii ((cs.length:Int)+1)] 345);have x1:=i.x1 (Cl #[If ty y,.pointer k1,Ii ((cs.length:Int)+1)] 345);have B:xs.length+1<=cap:=by simpa using V
 refine DC G.mb g o xs.length cap 262 k0 k1 cs.length #[bp d4,bp A] Post.ends (by rw[i.cell h1];rfl) (by rw[i.cell h2];rfl) (by rw[i.cell h3];rfl) (λv w' p=>⟨p.cell h1,p.cell h2,p.cell h3,p.cell h4,p.cell h5⟩) (by rw[i.cell h4];rfl) (by rw[i.cell h5];rfl) b2.gsize Om Om B (by simpa using hm) ?_;intro w' hw;have s:=Inv.lk hw i1;have c2:w'.heap.size=w.heap.size+1:=by rw[hw.heap];simp
 have X:HRep (G.add w.heap.size (Cl #[If ty y,.pointer k1,Ii ((cs.length:Int)+1)] 345)) (v::vs.reverse) (sT (Aa w.heap.size)):=.cons v vs.reverse w.heap.size (If ty y) k1 (by rw[b4];simp only[List.length_reverse];exact Gh.add_at _ _ _) (hv.mo x1.le) (hc.mo x1.le);cases hx with|nil=>obtain⟨b,Z,q⟩:=X.chn s;(have a0:b.length=vs.length+1:=by rw[<-q.1];simp);have Q:=s.alloc5 (Cl #[bp G.mb] 89) (Cl #[Sl (cY g o cap) 0 (cap-1)] 294) (Cl #[.pointer k0] 240) (Cl #[bp w.heap.size] 333) (Cl #[.func (.func 262) #[] #[bp d4,bp A]] 315);have J:=s.x5 (Cl #[bp G.mb] 89) (Cl #[Sl (cY g o cap) 0 (cap-1)] 294) (Cl #[.pointer k0] 240) (Cl #[bp w.heap.size] 333) (Cl #[.func (.func 262) #[] #[bp d4,bp A]] 315);have L:=x1.le.t J.le;have U:=x1.up.t J.up;(obtain⟨f,al,M⟩:∃f al,vs++[v]=f::al:=by cases vs with|nil=>exact⟨v,[],rfl⟩|cons a c=>exact⟨a,c++[v],rfl⟩);(have E:Sc.next S (.ret v (.app vs [] env::k)) m=bT S f al k m:=by simp only[Sc.next,M]);have a1:(v::vs.reverse).reverse=vs++[v]:=Sm;(have a3:∀x∈b,∃t v,x=Value.iface t v:=λx hx=>by obtain⟨j,hj,rfl⟩:=VV.1 hx;(have b5:j<(v::vs.reverse).length:=by rw[q.1];exact hj);exact(q.2 j _ _ (eG b5) (eG hj)).form);(have F:VsRep (G.add w.heap.size (Cl #[If ty y,.pointer k1,Ii ((cs.length:Int)+1)] 345)) (f::al) b.reverse:=by have:=q.reverse;rw[a1,M]at this;exact this);(have N:al.length=vs.length:=by have:=congrArg WN M;simp at this;omega);have a4:b.reverse.length=al.length+1:=So;(obtain⟨xf,xr,O⟩:∃xf xr,b.reverse=xf::xr:=by cases h:b.reverse with|nil=>rw[h]at a4;simp at a4|cons a c=>exact⟨a,c,rfl⟩);rw[O]at F;have a5:=(F.2 0 f xf rfl rfl).mo J.le;obtain⟨tf,yf,rfl⟩:=a5.form;have a6:(((((w'.alloc (Cl #[bp G.mb] 89)).alloc (Cl #[Sl (cY g o cap) 0 (cap-1)] 294)).alloc (Cl #[.pointer k0] 240)).alloc (Cl #[bp w.heap.size] 333)).alloc (Cl #[.func (.func 262) #[] #[bp d4,bp A]] 315)).heap.size=w'.heap.size+5:=Sm;have i7:=Q.below ((Below.refl _ _).alloc (eR _) (Cl b.reverse.toArray 63));(have a7:((((((w'.alloc (Cl #[bp G.mb] 89)).alloc (Cl #[Sl (cY g o cap) 0 (cap-1)] 294)).alloc (Cl #[.pointer k0] 240)).alloc (Cl #[bp w.heap.size] 333)).alloc (Cl #[.func (.func 262) #[] #[bp d4,bp A]] 315)).alloc (Cl b.reverse.toArray 63)).heap[w'.heap.size+5]? =sT (Cl b.reverse.toArray 63):=by rw[<-a6];exact eN _ _);refine Calls.mo (R:=Post _ S n (bT S f al k m).1 (bT S f al k m).2) ?_ (λe w p=>Post.step E rfl U p);refine DB (sT (Aa w.heap.size)) b GA Post.ends (λv w2 p=>⟨p.cell (Gh.add_at _ _ _),p.cell (by rw[aM Om];exact Gh.add_at _ _ _)⟩) Z a3 Om Om ?_;intro w2 H;have P:=Inv.lk H i7;(have K:w2.heap[w'.heap.size+5]? =sT (Cl b.reverse.toArray 63):=by rw[H.heap];exact a7);rw[show b.length=vs.length+1 from a0];refine OR d4 A G.mb (w'.heap.size+5) 0 vs.length (vs.length+1) tf ku yf cu w2 _ Post.ends (by rw[P.cell (L.mbox h6),L.mb];rfl) (by rw[P.cell (L.I h7)];rfl) (by simp[UT,K,O]) (eR _) Om ?_;intro w3 a8;have i8:=Inv.lk a8 P;have a9:=kT (n:=n) _ m w3 f al k (If tf yf) (cY (w'.heap.size+5) 0 (vs.length+1)) vs.length (vs.length+1-1) ku cu i8 a5 ?_ (hk.mo L);rw[L.mb]at a9;exact a9;(cases al with|nil=>left;(have h0:vs.length=0:=by rw[<-N];rfl);exact⟨rfl,cY (w'.heap.size+5) 0 (vs.length+1),vs.length+1-1,by rw[h0]⟩|cons a2 c3=>right;have b6:w'.heap.size+5=(((((w'.alloc (Cl #[bp G.mb] 89)).alloc (Cl #[Sl (cY g o cap) 0 (cap-1)] 294)).alloc (Cl #[.pointer k0] 240)).alloc (Cl #[bp w.heap.size] 333)).alloc (Cl #[.func (.func 262) #[] #[bp d4,bp A]] 315)).heap.size:=a6.symm;(have b7:vs.length+1≠1:=by rw[<-N];simp);refine⟨w'.heap.size+5,1,vs.length,b.reverse.toArray,by rw[N,cY,if_neg b7];simp,by simp,by omega,by omega,by rw[a8.heap];exact K,?_,?_,?_,?_⟩;intro b0;have:=Q.ml b0;omega;rw[b6];exact Q.fresh (eR _);intro hF;have:=(Q.ff hF).2;omega;intro j u hu;(have hj:j+1<(Value.iface tf yf::xr).length:=by rw[<-F.1];simp;have:=(eL.1 hu).1;simpa using this);refine⟨(Value.iface tf yf::xr)[j+1],by rw[O];simp[Nat.add_comm 1 j],?_⟩;exact(F.2 (j+1) u _ (by simpa using hu) (eG hj)).mo J.le)|cons sh e1 c y1 d hf hl=>obtain⟨C,c1,rfl,b8⟩:=hf.isF;(have b9:d.length+2<=cap:=by simp at B;omega);(have ht:cY g o cap=sT (Ab g (o+1)):=by unfold cY;rw[if_neg Om]);have E:Sc.next S (.ret v (.app vs (e1::c) env::k)) m=(.ev e1 env (.app (vs++[v]) c env::k),m):=rfl;rw[bX E rfl]at he;have Q:=s.alloc5 (Cl #[bp G.mb] 89) (Cl #[Sl (sT (Ab g (o+1))) (d.length+1) (cap-1)] 294) (Cl #[.pointer k0] 240) (Cl #[bp w.heap.size] 333) (Cl #[.func (.func 262) #[] #[bp d4,bp A]] 315);have J:=s.x5 (Cl #[bp G.mb] 89) (Cl #[Sl (sT (Ab g (o+1))) (d.length+1) (cap-1)] 294) (Cl #[.pointer k0] 240) (Cl #[bp w.heap.size] 333) (Cl #[.func (.func 262) #[] #[bp d4,bp A]] 315);have L:=x1.le.t J.le;have U:=x1.up.t J.up;(have D:∀j z,(Value.func (.func C) #[] c1::d)[j]? =sT z->T[o+1+j]? =sT z:=λj z hz=>by have:=W (j+1) z (by simpa using hz);rw[show o+1+j=o+(j+1)from by omega];exact this);rw[ht];refine Db d.length c1 b8 Post.ends (by rw[s.cell (x1.le.I hg)];exact D 0 _ rfl) ?_;intro w2 H;refine Calls.mo (b1 _ m w2 sh e1 env (.app (vs++[v]) c env::k) C 281 c1 _ k0 (Inv.lk H Q) (hf.mo L) (hn.mo L) (hs.mo L) (.app sh (vs++[v]) c env k _ _ _ _ _ d4 A (Sl (sT (Ab g (o+1))) (d.length+1) (cap-1)) (.func (.func C) #[] c1) (.func (.func ku) #[] cu) d k0 (sT (Aa w.heap.size)) ?_ ?_ ?_ ?_ ?_ (L.mbox h6) (L.I h7) (by simp at hb|-;omega) ?_ (hl.mo L) ?_ (hn.mo L) (hs.mo L) (hk.mo L)) he) (λe w p=>Post.step E rfl U p);show _=sT (Obj.cells #[bp G.mb] 89);exact RL;rw[aM Om,aM Om,aM Om];exact Gh.add_at _ _ _;rw[aM Om,aM Om];exact Gh.add_at _ _ _;rw[aM Om];exact Gh.add_at _ _ _;exact Gh.add_at _ _ _;exact⟨g,o+1,cap-1,T,rfl,L.I hg,by simp;omega,by omega,D⟩;rw[List.reverse_append];exact X.mo J.le
end
end
theorem nF(t:BA)(l:List UInt8):(t==(⟨l.toArray⟩:BA))=decide (t.data.toList=l):=by obtain⟨⟨d⟩⟩:=t;show(Array.mk d==l.toArray)=decide (d=l);by_cases h:d=l<;>simp[h]
theorem MH(e:Bool)(n:Nat)(t:BA)(w:Wd):(WR e (n+1) 9 (Sg t)).run prog w=.ok () w:=by simp[WR,run_underlying underlying9]
theorem jI(e:Bool)(t:BA)(w:Wd):(WR e 10000 9 (Sg t)).run prog w=.ok () w:=MH e 9999 t w
def dU(s:List UInt8):List (List UInt8×Nat)->Option Nat
 | []=>sV
 |(t,b)::r=>if s=t then sT b else dU s r
theorem vJ(t:BA):∀(es:List MapEntry) (B:List (List UInt8×Nat)) (i:Nat),es.map (λe=>(e.key,e.val))=B.map (λp=>(Value.string ⟨p.1.toArray⟩,bp p.2))->∃r,WS .string (Sg t) es i=sT r/\r.map (·.2)=(dU t.data.toList B).map λb=>bp b
 |[],[],i,_=>⟨sV,rfl,rfl⟩
 |[],_::_,i,h=>by simp at h
 |_::_,[],i,h=>by simp at h
 |e::es,(s,b)::B,i,h=>by simp only[WT,List.cons.injEq,Prod.mk.injEq]at h;obtain⟨⟨c,d⟩,f⟩:=h;simp only[WS,c,Instr.sameNow,nF,dU];by_cases a:t.data.toList=s;simp[a,d];simp only[a,decide_false];obtain⟨r,e1,e2⟩:=vJ t es B (i+1) f;exact⟨r,e1,by simpa[a]using e2⟩
theorem gG(es:Array MapEntry)(w:Wd)(a:w.heap[r]? =sT (.map es d0)):(getObj r).run prog w=.ok (.map es d0) w:=by unfold getObj;simp[Sem.run,a]
theorem uC(es:Array MapEntry)(B:List (List UInt8×Nat))(t:BA)(w:Wd)(d:w.heap[r]? =sT (.map es d0))(f:es.toList.map (λe=>(e.key,e.val))=B.map (λp=>(Value.string ⟨p.1.toArray⟩,bp p.2))):(WU 96 (.map (sT r)) (Sg t) xN).run prog w=.ok (.pointer ((dU t.data.toList B).map λb=>(Aa b))) w:=by obtain⟨a,e1,e2⟩:=vJ t es.toList B 0 f;have c:=gG es w d;cases a with|none=>(cases hl:dU t.data.toList B with|none=>simp[WU,run_underlying underlying96,go_sem,c,jI,WV,run_underlying underlying9,e1]|some b=>rw[hl]at e2;simp at e2)|some p=>cases hl:dU t.data.toList B with|none=>rw[hl]at e2;simp at e2|some b=>rw[hl]at e2;obtain⟨i,v⟩:=p;simp at e2;subst e2;simp[WU,run_underlying underlying96,go_sem,c,jI,WV,run_underlying underlying9,e1]
theorem uA{B:List (List UInt8×Nat)}(c b:Nat)(es:Array MapEntry)(a:Nat)(t:BA)(w:Wd)(d:w.heap[c]? =sT (.map es a))(f:es.toList.map (λe=>(e.key,e.val))=B.map (λp=>(Value.string ⟨p.1.toArray⟩,bp p.2)))(g:dU t.data.toList B=sV):(WW 96 (.map (sT c)) (Sg t) (bp b)).run prog w=.ok () {w with heap:=w.heap.setIfInBounds c (.map (es.push ⟨Sg t,bp b,a⟩) (a+1))}:=by
 obtain⟨r,e1,e2⟩:=vJ t es.toList B 0 f;rw[g]at e2;have h:r=sV:=by simpa using e2
 subst h;have i:=gG es w d;simp[WW,run_underlying underlying96,go_sem,i,jI,WV,run_underlying underlying9,e1];unfold setObj;simp[Sem.run,d]
theorem uF{s:List UInt8}:∀{B:List (List UInt8×Nat)} {b:Nat},dU s B=sT b->(s,b)∈B
 |[],_,h=>by simp[dU]at h
 |(t,c)::r,b,h=>by by_cases a:s=t;subst a;simp[dU]at h;subst h;simp;simp[dU,a]at h;exact List.mem_cons_of_mem _ (uF h)
theorem qL{s:List UInt8}:∀{B:List (List UInt8×Nat)},dU s B=sV->∀b,(s,b)∉B
 |[],_,b,h=>by simp at h
 |(t,c)::r,hn,b,h=>by by_cases a:s=t;subst a;simp[dU]at hn;simp[dU,a]at hn;rcases VR.1 h with h|h;cases h;exact a rfl;exact qL hn b h
def Gh.glob(G:Gh)(s:Bs)(b:Nat):Gh:={G with B:=G.B++[(s,b)]}
theorem Gh.le_glob(G:Gh)(s:Bs)(b:Nat):G.le (G.glob s b):=⟨_root_.id,_root_.id,_root_.id,λh=>WX _ h,rfl,rfl,rfl,rfl,rfl,rfl⟩
theorem Gh.up_glob(G:Gh)(s:Bs)(b:Nat):G.up (G.glob s b):=⟨G.le_glob s b,rfl,rfl⟩
theorem Inv.newGlob(i:Inv G S m w)(L:∀c,(s,c)∉G.B)(M:w.heap[b]? =sT (Cl #[.nilIface] 184))(z:b∉G.mut)(C:G.I b=US)(D:¬G.F b)(l:∀c,c≠G.mp->w'.heap[c]? =w.heap[c]?)(N:w'.heap.size=w.heap.size)(E:w'.os=w.os/\w'.tape=w.tape/\w'.output=w.output)(P:∃es r,w'.heap[G.mp]? =sT (.map es r)/\es.toList.map (λe=>(e.key,e.val))=(G.B++[(s,b)]).map (λp=>(Value.string ⟨p.1.toArray⟩,bp p.2))):Inv (G.glob s b) S m w':=by
 have h:=G.le_glob s b;have k:∀c,c∈(G.glob s b).mut↔c∈G.mut\/c=b:=λc=>by simp only[Gh.mut,Gh.glob,Gh.rows,VR,VS,VK,WT,List.map_nil];constructor;rintro(h|h|h|h|(h|h|h)|h);exact .inl (.inl h);exact .inl (.inr (.inl h));exact .inl (.inr (.inr (.inl h)));exact .inl (.inr (.inr (.inr (.inl h))));exact .inl (.inr (.inr (.inr (.inr (.inl h)))));exact .inr h;simp at h;exact .inl (.inr (.inr (.inr (.inr (.inr h)))));rintro((h|h|h|h|h|h)|h);exact .inl h;exact .inr (.inl h);exact .inr (.inr (.inl h));exact .inr (.inr (.inr (.inl h)));exact .inr (.inr (.inr (.inr (.inl (.inl h)))));exact .inr (.inr (.inr (.inr (.inr h))));exact .inr (.inr (.inr (.inr (.inl (.inr (.inl h))))))
 have H:b<w.heap.size:=(eE.1 M).1;have J:(G.glob s b).mut.Nodup:=by (have e:(G.glob s b).mut=G.mb::G.sb::G.cb::G.mp::(G.B.map (·.2)++([b]++G.rows)):=by simp[Gh.mut,Gh.glob,Gh.rows]);(have p:((G.B.map (·.2)++([b]++G.rows))).Perm (b::(G.B.map (·.2)++G.rows)):=by rw[<-List.append_assoc];exact(List.perm_append_comm (l₁:=G.B.map (·.2)) (l₂:=[b])).append_right G.rows);rw[e];(have q:(G.mb::G.sb::G.cb::G.mp::(G.B.map (·.2)++([b]++G.rows))).Perm (b::G.mut):=by refine((((p.cons G.mp).cons G.cb).cons G.sb).cons G.mb).trans ?_;refine((((List.Perm.swap _ _ _).cons _).cons _).cons _).trans ?_;refine(((List.Perm.swap _ _ _).cons _).cons _).trans ?_;refine((List.Perm.swap _ _ _).cons _).trans ?_;exact List.Perm.swap _ _ _);exact q.nodup_iff.2 (VU.2 ⟨z,i.nd⟩)
 have keep:∀{c:Nat} {o:Obj},G.I c=sT o->w'.heap[c]? =w.heap[c]?:=fun {c o} f=>l c λe=>by rw[e,i.mi i.m4]at f;cases f
 refine⟨λf=>by rw[keep f];exact i.imm f,J,?_,?_,i.st.keep (l _ (Ne.symm i.mp_sb)),i.ce.keep (l _ (Ne.symm i.mp_cb)),i.sl,i.cl,?_,P,?_,?_,?_,?_,i.el,i.jl,i.jn,i.ji,?_,?_,?_,?_⟩;intro c f;rcases (k c).1 f with f|rfl;exact i.mi f;exact C;intro c f;rw[N];rcases (k c).1 f with f|rfl;exact i.ml f;exact H;obtain⟨Q,R,a,c⟩:=i.ma;exact⟨Q,R,by show w'.heap[G.mb]? =_;rw[l _ (Ne.symm i.mp_mb)];exact a,c.mo h⟩;intro t c htc;rcases VS.1 htc with htc|htc;obtain⟨x,u,A⟩:=i.gl htc;exact⟨x,by rw[l c (i.lateB htc).2.2.2];exact u,A.mo h⟩;simp at htc;obtain⟨rfl,rfl⟩:=htc;refine⟨.nilIface,by rw[l c λe=>z (e▸i.m4)];exact M,?_⟩;rcases hl:lookup t m.glob with _|v;rfl;obtain⟨d,T⟩:=i.gd hl;exact absurd T (L d);intro t v U;obtain⟨c,f⟩:=i.gd U;exact⟨c,WX _ f⟩;show((G.B++[(s,b)]).map (·.1)).Nodup;rw[VK,VX];refine⟨i.gk,by simp,λx V y O e=>?_⟩;simp at O;subst O;subst e;obtain⟨⟨p1,X⟩,Y,rfl⟩:=VT.1 V;exact L X Y;intro j vs e Z;obtain⟨fb,sv,pf,u,A,h3,h4⟩:=i.en Z;exact⟨fb,sv,pf,u,A,h3.mo h,h4.mo h λg o n cap K=>l g (i.lateE (by rw[u,K])).2.2.2⟩;show w'.os=G.W.os/\w'.tape=G.W.tape/\w'.output=G.W.output;rw[E.1,E.2.1,E.2.2];exact i.fo;intro c f;obtain⟨u,A⟩:=i.ff f;rw[l c (λe=>i.fm i.m4 (e▸f)),N];exact⟨u,A⟩;intro c f;rcases (k c).1 f with f|rfl;exact i.fm f;exact D;exact i.fi
theorem Inv.mb2(i:Inv G S m w):w.cell? ⟨G.mb,2,US⟩=sT (.map (sT G.mp)):=by obtain⟨a,b,h,_⟩:=i.ma;simp[UT,h]
theorem CW(w:Wd)(t:BA)(i:Inv G S m w):Cp 134 #[bp G.mb,Sg t] w λe w'=>∃H b,e=Rt (bp b)/\G.up H/\Inv H S m w'/\(t.data.toList,b)∈H.B/\H.J=G.J/\H.E=G.E/\(∀c,c≠G.mp->c<w.heap.size->w'.heap[c]? =w.heap[c]?)/\w.heap.size<=w'.heap.size:=by obtain⟨es,a,d,j⟩:=i.mp;have c2:=i.mb2;have f:=uC es G.B t w d j;cases hb:dU t.data.toList G.B with|some b=>rw[hb]at f;have f:(WU 96 (.map (sT G.mp)) (Sg t) xN).run prog w=.ok (bp b) w:=f;obtain⟨g,l⟩:=aN i (uF hb);clear i d j hb;delta Cp;go_in;go_wp2;go_ret;exact⟨G,b,rfl,Gh.up.refl G,g.o,l.o,rfl,rfl,λ_ _ _=>rfl,eR _⟩|none=>rw[hb]at f;have f:(WU 96 (.map (sT G.mp)) (Sg t) xN).run prog w=.ok (.pointer sV) w:=f;have k:G.mp<w.heap.size:=(eE.1 d).1;have r:=uA G.mp w.heap.size es a t (w.alloc (Cl #[.nilIface] 184)) (by rw[eH _ _ _ k];exact d) j hb;have s:(w.alloc (Cl #[.nilIface] 184)).cell? (Ab G.mb 2)=sT (.map (sT G.mp)):=(aE (aC c2) _).t c2;obtain⟨g,l,p,u⟩:=dT i j (qL hb) d;clear i j hb d;delta Cp;go_in;go_wp2;go_ret;have q:=g.o.below ((Below.refl _ _).alloc (eR _) (Cl #[.nilIface] 184));refine⟨G.glob t.data.toList w.heap.size,w.heap.size,rfl,G.up_glob _ _,q.newGlob p.o (eN _ _) (λh=>by have:=g.o.ml h;omega) (g.o.fresh (eR _)) (λh=>by have:=(g.o.ff h).2;omega) ?_ Sm ⟨rfl,rfl,rfl⟩ ⟨es.push ⟨Sg t,bp w.heap.size,a⟩,a+1,?_,?_⟩,?_,rfl,rfl,?_,by simp⟩;intro c n;simp[Ne.symm n];simp[Array.getElem?_setIfInBounds];omega;simp[l.o];exact List.mem_append_right _ Sm;intro c n o;simp[Ne.symm n,eH _ _ _ o]
theorem Inv.gfz(i:Inv G S m w)(h:(s,b)∈G.B):w.frozen? ⟨b,0,US⟩=xN:=by obtain⟨x,a,_⟩:=i.gl h;simp[UU,a]
theorem Inv.gcell(i:Inv G S m w)(h:(s,b)∈G.B):∃x,w.cell? ⟨b,0,US⟩=sT x/\(x=.nilIface\/∃t y,x=If t y):=by obtain⟨x,c,a⟩:=i.gl h;refine⟨x,by simp[UT,c],?_⟩;rcases hl:lookup s m.glob with _|v;rw[hl]at a;exact .inl a;rw[hl]at a;exact .inr (VRep.form a)
theorem KJ{v:Vl}(w:Wd)(t:BA)(x:Vu)(i:Inv G S m w)(j:VRep G v x):Cp 72 #[bp G.mb,Sg t,x] w λe w'=>∃H,e=Rt (Tu #[])/\G.up H/\Inv H S {m with glob:=put t.data.toList v m.glob} w'/\H.J=G.J/\H.E=G.E/\w.heap.size<=w'.heap.size:=by obtain⟨ty,y,rfl⟩:=j.form;obtain⟨l,n⟩:=aN (CW w t i) j;clear i j;delta Cp;go_in;go_wp2_with (go_at_call 134;refine l.o.mo ?_;rintro e w2 ⟨H,b,rfl,o⟩;refine hO ?_);obtain⟨d,a,c,f,g,p,h⟩:=o;obtain⟨z,q,k⟩:=a.gcell c;have r:=a.gfz c;have s:=hZ (And.intro d (And.intro a (And.intro c (And.intro f (And.intro g h)))));clear d a c f g p h;rcases k with rfl|⟨u,A,rfl⟩;all_goals refine hZ ?_;go_wp2;go_end0;obtain⟨d,a,c,f,g,h⟩:=s.o;exact⟨H,rfl,d,a.setGlob c (n.o.mo d.le),f,g,by rw[aL];exact h⟩
theorem KQ{t:BA}{v:Vl}(i:Inv G S m w)(a:VRep G v x)(b:G.mbox r)(c:G.I d0=sT (Cl #[Sg t] 9)):Cp 219 #[.pointer k0,x,bp r,bp d0] w λe w'=>∃H,e=Rt (Tu #[])/\G.up H/\Inv H S {m with glob:=put t.data.toList v m.glob} w'/\H.J=G.J/\H.E=G.E/\w.heap.size<=w'.heap.size:=by
 obtain⟨ty,y,rfl⟩:=a.form;have d:=hZ (KJ w t (If ty y) i a);have c1:w.cell? (Aa r)=sT (bp G.mb):=by rw[i.cell b];rfl
 have c2:w.cell? (Aa d0)=sT (Sg t):=by rw[i.cell c];rfl
 clear i a b c;delta Cp;go_in;go_wp2_with (go_at_call 72;refine d.o.mo ?_;rintro e w2 ⟨H,rfl,f⟩);go_end0;exact⟨H,rfl,f⟩
section
section
variable {S:Sub} {n:Nat} {G:Gh} {m:Mc} {w:Wd} {v:Vl} {x:Vu} {k:List Fr}
theorem TN{c:Prop}(h:c:=by
  exact⟨rfl,by rw[i2.cell h3];rfl,Calls.mo (ihv G _ _ .none k _ ku cu i2 .none hk he) λe w p=>Post.step hnx rfl (Gh.up.refl G) p⟩):c:=h
theorem Qc(ihv:fI S n)(i:Inv G S m w)(f:VRep G v x){sh:List Nat}{t:Tg}{env:Option Nat}{P Q R:Nat}{xs u:Vu}{A:OA}(Z:G.I P=sT (Cl #[xs] 281))(h2:G.I Q=sT (Cl #[.pointer A] 240))(h3:G.I R=sT (Cl #[u] 161))(T:TRep G sh t xs)(hn:NRep G env A)(hs:Sh G sh A)(hk:FRep G k u)(he:Ct.ended (go S (n+1) (.ret v (.set t env::k)) m).1=xA):Cp 246 (#[x]++#[bp P,bp Q,bp R]) w (Post G S (n+1) (.ret v (.set t env::k)) m):=by obtain⟨ku,cu,rfl,C⟩:=hk.isF;obtain⟨ks,cs,rfl,D⟩:=T.isF;refine Ob cs A cu C D Post.ends (by rw[i.cell Z];rfl) (by rw[i.cell h2];rfl) ?_;cases T with|loc u j N q h U d r=>obtain⟨jx,fb,sv,vs,e',k1,k2,V,k4,k5,k6,B⟩:=i.find u hn hs h;rcases k6 with⟨rfl,_⟩|⟨g,o,cap,a0,rfl,hne,W,hx⟩;simp at B;omega;obtain⟨E,rfl⟩:∃E,N=E+1:=⟨N-1,by omega⟩;obtain⟨y,F,J⟩:=hx j (vs[j]' Om) (eG Om);(have hnx:Sc.next S (.ret v (.set (.loc u j) env::k)) m=(.ret .none k,{m with envs:=m.envs.modify jx λ(l,u)=>(l.set j v,u)}):=by simp only[Sc.next,lS,k1]);rw[bX hnx rfl]at he;rw[B]at V;have K:=Nr q j fb g o (E+1) cap f.form (by rw[i.cell r];rfl) (by rw[i.cell r];rfl) k4 (by rw[k5,B]) U d.1 d.2 (by simp[UT,W,F]) J.form (by simp[UU,W]);refine Calls.mo K ?_;rintro e w' ⟨rfl,w1,L,rfl⟩;left;have i2:=(i.below L).setEnv (a:=j) V k2 B U f;exact TN|glo s q b r d=>obtain⟨z,M,c⟩:=i.gl d;(have X:w.cell? (Aa b)=sT z:=by simp[UT,M]);rcases hl:lookup s m.glob with _|v0;rw[hl]at c;obtain rfl:z=.nilIface:=c;(have hnx:Sc.next S (.ret v (.set (.glo s) env::k)) m=(.stop 5,m):=by simp[Sc.next,hl]);refine Calls.mo (Nv (by rw[i.cell r];rfl) X) ?_;rintro e w' ⟨rfl,o,rfl⟩;exact .inr ⟨⟨_,rfl⟩,Post.step hnx rfl (Gh.up.refl G) (Post.now (.stop 5 _ _ (i.cntB (eR _) ((Below.refl _ _).alloc (eR _) _))))⟩;rw[hl]at c;obtain⟨t0,y0,rfl⟩:=VRep.form c;(have hnx:Sc.next S (.ret v (.set (.glo s) env::k)) m=(.ret .none k,{m with glob:=put s v m.glob}):=by simp[Sc.next,hl]);rw[bX hnx rfl]at he;refine Calls.mo (Nu (by rw[i.cell r];rfl) X (i.gfz d) f.form) ?_;rintro e w' ⟨rfl,rfl⟩;left;have i2:=i.setGlob d f;exact TN|def' s a1 q4 t h4 h5 O=>subst O;have hnx:Sc.next S (.ret v (.set (.def' t.data.toList) env::k)) m=(.ret .none k,{m with glob:=put t.data.toList v m.glob}):=rfl;rw[bX hnx rfl]at he;refine Calls.mo (KQ i f h4 h5) ?_;rintro e w' ⟨H,rfl,h,Y,_,_,_⟩;left;exact⟨rfl,by rw[Y.cell (h.le.I h3)];rfl,Calls.mo (ihv H _ _ .none k _ ku cu Y .none (hk.mo h.le) he) λe w p=>Post.step hnx rfl h p⟩
theorem TG{c:Prop}(h:c:=by
  exact Post.step hnx rfl (Gh.up.refl G) (Post.now (.stop 11 _ _ (i1.cntB (by rw[aL];exact eR _) hb)))):c:=h
theorem Nd(f:fI S n){w1:Wd}{env:Option Nat}(i:Inv G S {m with steps:=m.steps+1} w1)(y:NRep G env k0)(z:Sh G sh k0)(u:FRep G k (Ha r l0))(a:(m.steps:Int)<S.fuel){d0:Nat}{J:Bool}(A:G.mbox d1)(B:G.I d2=sT (Cl #[Z] 144))(C:G.I d3=sT (Cl #[Y] 305))(D:SRep G (d0::sh) l Z)(hb:BRep G d0 J Y)(v:Ct.ended (go S (n+1) (.ev (.lam d0 J l) env k) m).1=xA):Cp 267 (#[.pointer k0,Ha r l0]++#[bp d1,bp d2,bp d3]) w1 (Post G S (n+1) (.ev (.lam d0 J l) env k) m):=by
 have c1:w1.cell? (Aa d1)=sT (bp G.mb):=by rw[i.cell A];rfl
 by_cases b:(m.cells:Int)<S.quota;have hnx:Sc.next S (.ev (.lam d0 J l) env k) m=(.ret (.lam m.ids d0 J l env) k,{m with steps:=m.steps+1,cells:=m.cells+1,ids:=m.ids+1}):=by simp[Sc.next,Sc.step,a,Sc.cell,b]
 rw[bX hnx rfl]at v;obtain⟨K,M,g,h⟩:=u.isF;cases g;have d:=i.cells (m.cells+1) (by push_cast;omega);have d:Inv G S {m with steps:=m.steps+1,cells:=m.cells+1} (w1.setCell (Aa G.cb) (Ii ((m.cells:Int)+1))):=by simpa using d
 refine Zr d1 d2 d3 G.mb G.cb r m.cells S.quota k0 l0 w1 _ h Post.ends c1 i.mb1 i.ce Om Om (by have:=i.cl.2;omega) ?_;intro w' E;have j:=d.alloc (Cl #[.pointer k0] 240);have o:=d.x1 (Cl #[.pointer k0] 240);have q:=j.newObj (Cl #[Ha 268 #[bp d2,bp d3,bp w1.heap.size]] 166);have c:=j.ext_newObj (Cl #[Ha 268 #[bp d2,bp d3,bp w1.heap.size]] 166);have s:=j.at_newObj (Cl #[Ha 268 #[bp d2,bp d3,bp w1.heap.size]] 166);have F:((w1.setCell (Aa G.cb) (Ii ((m.cells:Int)+1))).alloc (Cl #[.pointer k0] 240)).heap.size=w1.heap.size+1:=Sm;have t:(w1.setCell (Aa G.cb) (Ii ((m.cells:Int)+1))).heap.size=w1.heap.size:=aL;rw[F]at q c s;rw[t]at q c s o;have L:=o.le.t c.le;refine Calls.mo (f _ _ w' (.lam m.ids d0 J l env) k _ r l0 (Inv.lk E q) (.proc _ _ (.lam sh m.ids d0 J l env (w1.heap.size+1) d2 d3 w1.heap.size Z Y k0 s (Gh.add_at _ _ _) (L.I B) (L.I C) (c.le.I (Gh.add_at _ _ _)) (D.mo L) (hb.mo L) (y.mo L) (z.mo L))) (u.mo L) v) (λe w p=>Post.step hnx rfl (o.up.t c.up) p);have hnx:Sc.next S (.ev (.lam d0 J l) env k) m=(.stop 11,{m with steps:=m.steps+1}):=by simp[Sc.next,Sc.step,a,Sc.cell,b]
 have H:(m.cells:Int)=S.quota:=by have:(m.cells:Int)<=S.quota:=i.cl.1;omega
 have x:Mt G.cb m.cells S.quota 11 w1:=i.ce;rw[<-H]at x;refine Calls.mo (Zq c1 i.mb1 x Om (by have:=i.cl.2;omega)) ?_;rintro e w' ⟨rfl,hb⟩;have i1:=i.cells m.cells Om;exact TG
end
end
end
end Go.Proofs.YtmjepkgaobnfmaaGreatDoor
