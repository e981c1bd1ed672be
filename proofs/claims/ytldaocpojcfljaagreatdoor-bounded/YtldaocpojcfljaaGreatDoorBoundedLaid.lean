import Derived.Test.YtldaocpojcfljaaGreatDoorEB
import Derived.Test.YtldaocpojcfljaaGreatDoorRows
import Derived.ProofKit
import Derived.OpenShut
import Derived.SizedLaws
import Derived.Deep.DeepHandedRow
import Derived.Deep.DeepWitnessRowRef
import Derived.Lib.LaidTab
import Derived.Stop.LaidErr
import Derived.SliceStrings
set_option maxRecDepth 100000
namespace Go.Proofs.YtldaocpojcfljaaGreatDoor
open Go.ChangeShapes Go.WideShapes Go.ChangeAt Go.RowKit
theorem ownK:ownKnob Tryz.prog.godebug=none:=by kernel_rfl
theorem laidOut:laidOutB Tryz.prog=true:=by kernel_rfl
theorem pow10_type:(Tryz.prog.globals[0]?).map (·.type)=some 190:=by kernel_rfl
theorem errRange_type:(Tryz.prog.globals[5]?).map (·.type)=some 142:=by kernel_rfl
theorem cells190:Tryz.prog.cellsOf 190=20:=by kernel_rfl
theorem cells146:Tryz.prog.cellsOf 146=1:=by kernel_rfl
theorem cells475:Tryz.prog.cellsOf 475=1:=by kernel_rfl
theorem cells9:Tryz.prog.cellsOf 9=1:=by kernel_rfl
theorem cells3:Tryz.prog.cellsOf 3=1:=by kernel_rfl
theorem star: "*" ++ "errors.errorString" = "*errors.errorString" :=by decide
theorem row473(u:TypeId)(h:Tryz.prog.typeName? 3 u=some "*errors.errorString"):u=473:=
 typeName_ptr_named (nm:= "errors.errorString") (by rw[star];kernel_rfl) (by kernel_rfl) (by decide) u (by rw[star];exact h)
set_option maxRecDepth 100000 in
theorem glob{W:World}(h:laidMetH Tryz.prog [("math/bits.deBruijn32tab",Rows.laid_math_bits_deBruijn32tab),("math/bits.deBruijn64tab",Rows.laid_math_bits_deBruijn64tab),("internal/strconv.uint64pow10",Rows.laid_internal_strconv_uint64pow10),("strconv.ErrRange",Rows.laid_strconv_ErrRange),("strconv.ErrSyntax",Rows.laid_strconv_ErrSyntax)] W):GT W/\Rd.GV W/\6<=W.heap.size:=by
 have h':laidMet Tryz.prog [("math/bits.deBruijn32tab",Rows.laid_math_bits_deBruijn32tab),("math/bits.deBruijn64tab",Rows.laid_math_bits_deBruijn64tab),("internal/strconv.uint64pow10",Rows.laid_internal_strconv_uint64pow10),("strconv.ErrRange",Rows.laid_strconv_ErrRange),("strconv.ErrSyntax",Rows.laid_strconv_ErrSyntax)] W:=h
 have ht:GT W:=Lib.tabIs_of_head (zs:=Lib.pow10Tab) (rest:=_) pow10_no pow10_type Tryz.underlying190 Tryz.underlying146 cells146 cells190 h'.tail.tail;obtain⟨a,s,hv,-,-,-⟩:=laid_sentinel h'.tail.tail.tail Rd.errRange_no errRange_type Tryz.underlying142 row473 Tryz.underlying473 Tryz.underlying475 rfl rfl Tryz.underlying9 cells475 cells9;refine⟨ht,⟨473,_,hv⟩,?_⟩;have hv2:=hv;unfold World.var? at hv2;rw[Rd.errRange_no]at hv2;simp only[Option.bind_some]at hv2;cases h5:W.heap[5]? with
 |none=>rw[h5]at hv2;simp at hv2
 |some o=>exact(Array.getElem?_eq_some_iff.1 h5).1
theorem cells34:Tryz.prog.cellsOf 34=10:=by kernel_rfl
theorem sub_cells{H:Type}{enc:TypeId×Value->H}{W:World}{fuel:Nat}{l:List Value}{x:DataW H×List MemPlace}(hsz:l.length=10)(hf:DataW.trod enc Tryz.prog W 0 (fun _=>true) true fuel 34 l=some x):
  ∃(z:SubV) (ts:List ByteArray),l=z.c.toList/\SubAt z ts W:=by
 obtain⟨xs,n,_,_,_,hlen,hx⟩:=DataW.trod_struct Tryz.underlying34 hf
 match l,hsz with
 | [c0,c1,c2,c3,c4,c5,c6,c7,c8,c9],_=>
  have hlen:xs.length=10:=hlen;have s0:=(hx 0 _ rfl).trans (List.getElem?_eq_getElem (by omega));have s1:=(hx 1 _ rfl).trans (List.getElem?_eq_getElem (by omega));have s5:=(hx 5 _ rfl).trans (List.getElem?_eq_getElem (by omega));have s6:=(hx 6 _ rfl).trans (List.getElem?_eq_getElem (by omega));have s7:=(hx 7 _ rfl).trans (List.getElem?_eq_getElem (by omega));have s8:=(hx 8 _ rfl).trans (List.getElem?_eq_getElem (by omega));have s9:=(hx 9 _ rfl).trans (List.getElem?_eq_getElem (by omega));obtain⟨t,e0,_⟩:=DataW.trod_string Tryz.underlying9 s0;obtain⟨g,e5,_⟩:=DataW.trod_int Tryz.underlying3 s5;obtain⟨f,e6,_⟩:=DataW.trod_int Tryz.underlying3 s6;obtain⟨r,e7,_⟩:=DataW.trod_int Tryz.underlying3 s7;obtain⟨q,e8,_⟩:=DataW.trod_int Tryz.underlying3 s8;obtain⟨m,e9,_⟩:=DataW.trod_int Tryz.underlying3 s9;cases e0;cases e5;cases e6;cases e7;cases e8;cases e9;rcases open_strings Tryz.underlying32 Tryz.underlying9 cells9 s1 with⟨e1,_⟩|⟨a,len,cap,ss,e1,_,hl,hm,hz,_,hcell,_⟩
  ·cases e1;exact⟨⟨t,none,0,0,c2,c3,c4,g,f,r,q,m⟩,[],rfl,⟨rfl,fun i hi=>by simp at hi⟩⟩
  ·cases e1;simp only[if_true]at hz;refine⟨⟨t,some a,len,cap,c2,c3,c4,g,f,r,q,m⟩,ss.take len,rfl,⟨by simp;omega,fun i hi=>?_⟩⟩;have hi:i<len:=by simp at hi;omega
   have hc:=hcell i (by omega);obtain⟨b,off,spot⟩:=a;obtain rfl:spot=none:=by simpa[Addr.add]using World.cell?_spot (hcell 0 (by omega))
   rw[add_plain]at hc;refine⟨b,off,rfl,World.block_lt_of_cell? W _ hc,?_⟩;rw[hc];simp only[List.getD_eq_getElem?_getD,List.getElem?_take,hi,if_true];rfl
theorem sub_in{H:Type}{enc:TypeId×Value->H}{W:World}{base:Nat}{v:Value}{d:DataW H}{p:List MemPlace}(hv:Value.okWide Tryz.prog W .any base 34 v)(h:DataW.Trod enc Tryz.prog W 0 (fun _=>true) true 34 v d p):
  ∃(z:SubV) (ts:List ByteArray),v=.agg z.c/\SubAt z ts W:=by
 obtain⟨⟨l⟩,rfl,hsz⟩:=okWide_struct Tryz.underlying34 hv;obtain⟨fuel,hf⟩:=h;obtain⟨z,ts,e,hs⟩:=sub_cells (hsz.trans cells34) hf;exact⟨z,ts,congrArg Value.agg (Array.toList_inj.1 e),hs⟩
end Go.Proofs.YtldaocpojcfljaaGreatDoor
