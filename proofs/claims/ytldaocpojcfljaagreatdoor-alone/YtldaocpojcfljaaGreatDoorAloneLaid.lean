import Derived.Test.YtldaocpojcfljaaGreatDoorEA
import Derived.Test.YtldaocpojcfljaaGreatDoorRows
import Derived.ProofKit
import Derived.OpenShut
import Derived.SizedLaws
import Derived.Deep.DeepHandedRow
import Derived.Deep.DeepWitnessRowRef
import Derived.Lib.LaidTab
import Derived.Stop.LaidErr
import Derived.SliceStrings
import Derived.Deep.Slices
set_option maxRecDepth 100000
namespace Go.Proofs.YtldaocpojcfljaaGreatDoor
open Go.ChangeShapes Go.WideShapes Go.ChangeAt Go.RowKit
theorem ownK:ownKnob Tryz.prog.godebug=none:=by kernel_rfl
theorem laidOut:laidOutB Tryz.prog=true:=by kernel_rfl
theorem pow10_type:(Tryz.prog.globals[0]?).map (·.type)=some 190:=by kernel_rfl
theorem errRange_type:(Tryz.prog.globals[5]?).map (·.type)=some 142:=by kernel_rfl
theorem cells190:Tryz.prog.cellsOf 190=20:=by kernel_rfl
theorem cells146:Tryz.prog.cellsOf 146=1:=by kernel_rfl
theorem cells475:Tryz.prog.cellsOf 475=1:=by kernel_rfl
theorem cells9:Tryz.prog.cellsOf 9=1:=by kernel_rfl
theorem cells3:Tryz.prog.cellsOf 3=1:=by kernel_rfl
theorem star: "*" ++ "errors.errorString" = "*errors.errorString" :=by decide
theorem row473(u:TypeId)(h:Tryz.prog.typeName? 3 u=some "*errors.errorString"):u=473:=
 typeName_ptr_named (nm:= "errors.errorString") (by rw[star];kernel_rfl) (by kernel_rfl) (by decide) u (by rw[star];exact h)
set_option maxRecDepth 100000 in
theorem glob{W:World}(h:laidMetH Tryz.prog [("math/bits.deBruijn32tab",Rows.laid_math_bits_deBruijn32tab),("math/bits.deBruijn64tab",Rows.laid_math_bits_deBruijn64tab),("internal/strconv.uint64pow10",Rows.laid_internal_strconv_uint64pow10),("strconv.ErrRange",Rows.laid_strconv_ErrRange),("strconv.ErrSyntax",Rows.laid_strconv_ErrSyntax)] W):GT W/\Rd.GV W/\6<=W.heap.size:=by
 have h':laidMet Tryz.prog [("math/bits.deBruijn32tab",Rows.laid_math_bits_deBruijn32tab),("math/bits.deBruijn64tab",Rows.laid_math_bits_deBruijn64tab),("internal/strconv.uint64pow10",Rows.laid_internal_strconv_uint64pow10),("strconv.ErrRange",Rows.laid_strconv_ErrRange),("strconv.ErrSyntax",Rows.laid_strconv_ErrSyntax)] W:=h
 have ht:GT W:=Lib.tabIs_of_head (zs:=Lib.pow10Tab) (rest:=_) pow10_no pow10_type Tryz.underlying190 Tryz.underlying146 cells146 cells190 h'.tail.tail;obtain⟨a,s,hv,-,-,-⟩:=laid_sentinel h'.tail.tail.tail Rd.errRange_no errRange_type Tryz.underlying142 row473 Tryz.underlying473 Tryz.underlying475 rfl rfl Tryz.underlying9 cells475 cells9;refine⟨ht,⟨473,_,hv⟩,?_⟩;have hv2:=hv;unfold World.var? at hv2;rw[Rd.errRange_no]at hv2;simp only[Option.bind_some]at hv2;cases h5:W.heap[5]? with
 |none=>rw[h5]at hv2;simp at hv2
 |some o=>exact(Array.getElem?_eq_some_iff.1 h5).1
theorem cells34:Tryz.prog.cellsOf 34=10:=by kernel_rfl
theorem sub_cells{H:Type}{enc:TypeId×Value->H}{W:World}{fuel:Nat}{l:List Value}{x:DataW H×List MemPlace}(hsz:l.length=10)(hf:DataW.trod enc Tryz.prog W 0 (fun _=>true) true fuel 34 l=some x):
  ∃(z:SubV) (ts:List ByteArray),l=z.c.toList/\SubAt z ts W:=by
 obtain⟨xs,n,_,_,_,hlen,hx⟩:=DataW.trod_struct Tryz.underlying34 hf
 match l,hsz with
 | [c0,c1,c2,c3,c4,c5,c6,c7,c8,c9],_=>
  have hlen:xs.length=10:=hlen;have s0:=(hx 0 _ rfl).trans (List.getElem?_eq_getElem (by omega));have s1:=(hx 1 _ rfl).trans (List.getElem?_eq_getElem (by omega));have s5:=(hx 5 _ rfl).trans (List.getElem?_eq_getElem (by omega));have s6:=(hx 6 _ rfl).trans (List.getElem?_eq_getElem (by omega));have s7:=(hx 7 _ rfl).trans (List.getElem?_eq_getElem (by omega));have s8:=(hx 8 _ rfl).trans (List.getElem?_eq_getElem (by omega));have s9:=(hx 9 _ rfl).trans (List.getElem?_eq_getElem (by omega));obtain⟨t,e0,_⟩:=DataW.trod_string Tryz.underlying9 s0;obtain⟨g,e5,_⟩:=DataW.trod_int Tryz.underlying3 s5;obtain⟨f,e6,_⟩:=DataW.trod_int Tryz.underlying3 s6;obtain⟨r,e7,_⟩:=DataW.trod_int Tryz.underlying3 s7;obtain⟨q,e8,_⟩:=DataW.trod_int Tryz.underlying3 s8;obtain⟨m,e9,_⟩:=DataW.trod_int Tryz.underlying3 s9;cases e0;cases e5;cases e6;cases e7;cases e8;cases e9;rcases open_strings Tryz.underlying32 Tryz.underlying9 cells9 s1 with⟨e1,_⟩|⟨a,len,cap,ss,e1,_,hl,hm,hz,_,hcell,_⟩
  ·cases e1;exact⟨⟨t,none,0,0,c2,c3,c4,g,f,r,q,m⟩,[],rfl,⟨rfl,fun i hi=>by simp at hi⟩⟩
  ·cases e1;simp only[if_true]at hz;refine⟨⟨t,some a,len,cap,c2,c3,c4,g,f,r,q,m⟩,ss.take len,rfl,⟨by simp;omega,fun i hi=>?_⟩⟩;have hi:i<len:=by simp at hi;omega
   have hc:=hcell i (by omega);obtain⟨b,off,spot⟩:=a;obtain rfl:spot=none:=by simpa[Addr.add]using World.cell?_spot (hcell 0 (by omega))
   rw[add_plain]at hc;refine⟨b,off,rfl,World.block_lt_of_cell? W _ hc,?_⟩;rw[hc];simp only[List.getD_eq_getElem?_getD,List.getElem?_take,hi,if_true];rfl
theorem sub_in{H:Type}{enc:TypeId×Value->H}{W:World}{base:Nat}{v:Value}{d:DataW H}{p:List MemPlace}(hv:Value.okWide Tryz.prog W .any base 34 v)(h:DataW.Trod enc Tryz.prog W 0 (fun _=>true) true 34 v d p):
  ∃(z:SubV) (ts:List ByteArray),v=.agg z.c/\SubAt z ts W:=by
 obtain⟨⟨l⟩,rfl,hsz⟩:=okWide_struct Tryz.underlying34 hv;obtain⟨fuel,hf⟩:=h;obtain⟨z,ts,e,hs⟩:=sub_cells (hsz.trans cells34) hf;exact⟨z,ts,congrArg Value.agg (Array.toList_inj.1 e),hs⟩
theorem subs_in{H:Type}{enc:TypeId×Value->H}{W:World}{base:Nat}{v:Value}{d:DataW H}{p:List MemPlace}(hv:Value.okWide Tryz.prog W .any base 52 v)(h:DataW.Trod enc Tryz.prog W 0 (fun _=>true) true 52 v d p):
  ∃(a:Option Addr) (n c:Nat) (zs:List (SubV×List ByteArray)),v=.slice a n c/\n=zs.length/\n<=9223372036854775807/\SubsAt a zs W:=by
 obtain⟨a0,len,cap,rfl⟩:=okWide_slice Tryz.underlying52 hv;obtain⟨fuel,hf⟩:=h;rcases Go.Deep.open_slice Tryz.underlying52 hf with⟨e,_⟩|⟨a,len',cap',m,n,D,Pl,e,_,hl,hm,hmm,_,hel⟩
 ·cases e;exact⟨none,0,0,[],rfl,rfl,by omega,fun i hi=>by simp at hi⟩
 ·cases e;simp only[if_true]at hmm;obtain⟨b,o,spot⟩:=a;have key:∀i,i<len->∃q:SubV×List ByteArray,spot=none/\b<W.heap.size/\SubAt q.1 q.2 W/\∀j,j<10->W.cell? ⟨b,o+i*10+j,none⟩=q.1.c[j]?:=fun i hi=>by
   have sp:spot=none:=by
    obtain⟨cs,hc,_⟩:=hel 0 (by omega);rw[cells34]at hc;obtain⟨_,_,h3⟩:=World.cells?_some hc;simpa[Addr.add]using World.cell?_spot ((h3 0 (by omega)).trans (List.getElem?_eq_getElem (by omega)))
   subst sp;obtain⟨cs,hc,ht⟩:=hel i (by omega);rw[cells34,add_plain]at hc;obtain⟨h1,h2,h3⟩:=World.cells?_some hc;obtain⟨z,ts,e,hs⟩:=sub_cells h2 ht;refine⟨(z,ts),rfl,World.cells?_block hc (by omega),hs,fun j hj=>?_⟩;have:=h3 j hj;rw[add_plain,e]at this;simpa using this
  obtain⟨F,hF⟩:∃F:Nat->SubV×List ByteArray,∀i,i<len->spot=none/\b<W.heap.size/\SubAt (F i).1 (F i).2 W/\∀j,j<10->W.cell? ⟨b,o+i*10+j,none⟩=(F i).1.c[j]?:=
   ⟨fun i=>if h:i<len then Classical.choose (key i h)else(⟨⟨#[]⟩,none,0,0,.nilFunc,.nilFunc,.nilFunc,0,0,0,0,0⟩,[]),fun i h=>by simp only[h,dif_pos];exact Classical.choose_spec (key i h)⟩
  refine⟨some ⟨b,o,spot⟩,len,cap,(List.range len).map F,rfl,by simp,by unfold maxLen at hm;omega,fun i hi=>?_⟩;have hi:i<len:=by simpa using hi
  obtain⟨rfl,h2,h3,h4⟩:=hF i hi;exact⟨b,o,(F i).1,(F i).2,by simp[hi],rfl,h2,h3,h4⟩
end Go.Proofs.YtldaocpojcfljaaGreatDoor
