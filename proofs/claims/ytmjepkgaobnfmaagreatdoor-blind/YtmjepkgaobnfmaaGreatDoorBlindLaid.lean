import Derived.Test.YtmjepkgaobnfmaaGreatDoorEL
import Derived.Test.YtmjepkgaobnfmaaGreatDoorRows
import Derived.ProofKit
import Derived.OpenShut
import Derived.SizedLaws
import Derived.Deep.DeepHandedRow
import Derived.Deep.DeepWitnessRowRef
import Derived.Lib.LaidTab
import Derived.Stop.LaidErr
import Derived.SliceStrings
set_option maxRecDepth 100000
namespace Go.Proofs.YtmjepkgaobnfmaaGreatDoor
open Go.ChangeShapes Go.WideShapes Go.ChangeAt Go.RowKit
theorem ownK:ownKnob Tryz.prog.godebug=none:=by kernel_rfl
theorem laidOut:laidOutB Tryz.prog=true:=by kernel_rfl
theorem pow10_type:(Tryz.prog.globals[3]?).map (·.type)=some 253:=by kernel_rfl
theorem errRange_type:(Tryz.prog.globals[2]?).map (·.type)=some 66:=by kernel_rfl
theorem tab64_no:Tryz.prog.globalNamed "math/bits.deBruijn64tab" =some 5:=by kernel_rfl
theorem cells253:Tryz.prog.cellsOf 253=20:=by kernel_rfl
theorem cells202:Tryz.prog.cellsOf 202=1:=by kernel_rfl
theorem cells298:Tryz.prog.cellsOf 298=1:=by kernel_rfl
theorem cells9:Tryz.prog.cellsOf 9=1:=by kernel_rfl
theorem cells3:Tryz.prog.cellsOf 3=1:=by kernel_rfl
theorem star: "*" ++ "errors.errorString" = "*errors.errorString" :=by decide
theorem row296(u:TypeId)(h:Tryz.prog.typeName? 3 u=some "*errors.errorString"):u=296:=
 typeName_ptr_named (nm:= "errors.errorString") (by rw[star];kernel_rfl) (by kernel_rfl) (by decide) u (by rw[star];exact h)
set_option maxRecDepth 100000 in
theorem glob{W:World}(h:laidMetH Tryz.prog [("math/bits.deBruijn32tab",Rows.laid_math_bits_deBruijn32tab),("math/bits.deBruijn64tab",Rows.laid_math_bits_deBruijn64tab),("internal/strconv.uint64pow10",Rows.laid_internal_strconv_uint64pow10),("strconv.ErrRange",Rows.laid_strconv_ErrRange),("strconv.ErrSyntax",Rows.laid_strconv_ErrSyntax)] W):GT W/\Rd.GV W/\6<=W.heap.size:=by
 have h':laidMet Tryz.prog [("math/bits.deBruijn32tab",Rows.laid_math_bits_deBruijn32tab),("math/bits.deBruijn64tab",Rows.laid_math_bits_deBruijn64tab),("internal/strconv.uint64pow10",Rows.laid_internal_strconv_uint64pow10),("strconv.ErrRange",Rows.laid_strconv_ErrRange),("strconv.ErrSyntax",Rows.laid_strconv_ErrSyntax)] W:=h
 have ht:GT W:=Lib.tabIs_of_head (zs:=Lib.pow10Tab) (rest:=_) pow10_no pow10_type Tryz.underlying253 Tryz.underlying202 cells202 cells253 h'.tail.tail;obtain⟨a,s,hv,-,-,-⟩:=laid_sentinel h'.tail.tail.tail Rd.errRange_no errRange_type Tryz.underlying66 row296 Tryz.underlying296 Tryz.underlying298 rfl rfl Tryz.underlying9 cells298 cells9;refine⟨ht,⟨296,_,hv⟩,?_⟩;obtain⟨_,⟨_,_,_,_,_,_,_,_,hv2,_⟩,_⟩:=h'.tail;unfold World.var? at hv2;rw[tab64_no]at hv2;simp only[Option.bind_some]at hv2;cases h5:W.heap[5]? with
 |none=>rw[h5]at hv2;simp at hv2
 |some o=>exact(Array.getElem?_eq_some_iff.1 h5).1
def Slc(v:Value):Prop:=∃a n c,v=.slice a n c
theorem slc{H:Type}{enc:TypeId×Value->H}{W:World}{fuel:Nat}{t e:TypeId}{v:Value}{x:DataW H×List MemPlace}(ht:Tryz.prog.underlying t=some (.slice e))(h:DataW.trod enc Tryz.prog W 0 (fun _=>true) true fuel t [v]=some x):Slc v:=by
 rcases DataW.trod_slice ht h with⟨e,_⟩|⟨a,n,c,_,_,_,_,e,_⟩ <;> cases e <;> exact⟨_,_,_,rfl⟩
theorem cells25:Tryz.prog.cellsOf 25=10:=by kernel_rfl
theorem sub_cells{H:Type}{enc:TypeId×Value->H}{W:World}{fuel:Nat}{l:List Value}{x:DataW H×List MemPlace}(hsz:l.length=10)(hf:DataW.trod enc Tryz.prog W 0 (fun _=>true) true fuel 25 l=some x):
  ∃(z:SubV) (ts:List ByteArray),l=z.c.toList/\SubAt z ts W/\(-9223372036854775808<=z.g/\z.g<=9223372036854775807)/\Slc z.li/\Slc z.ti/\Slc z.dr:=by
 obtain⟨xs,n,_,_,_,hlen,hx⟩:=DataW.trod_struct Tryz.underlying25 hf
 match l,hsz with
 | [c0,c1,c2,c3,c4,c5,c6,c7,c8,c9],_=>
  have hlen:xs.length=10:=hlen;have s0:=(hx 0 _ rfl).trans (List.getElem?_eq_getElem (by omega));have s1:=(hx 1 _ rfl).trans (List.getElem?_eq_getElem (by omega));have s2:=(hx 2 _ rfl).trans (List.getElem?_eq_getElem (by omega));have s3:=(hx 3 _ rfl).trans (List.getElem?_eq_getElem (by omega));have s4:=(hx 4 _ rfl).trans (List.getElem?_eq_getElem (by omega));have s5:=(hx 5 _ rfl).trans (List.getElem?_eq_getElem (by omega));have s6:=(hx 6 _ rfl).trans (List.getElem?_eq_getElem (by omega));have s7:=(hx 7 _ rfl).trans (List.getElem?_eq_getElem (by omega));have s8:=(hx 8 _ rfl).trans (List.getElem?_eq_getElem (by omega));have s9:=(hx 9 _ rfl).trans (List.getElem?_eq_getElem (by omega));obtain⟨t,e0,_⟩:=DataW.trod_string Tryz.underlying9 s0;obtain⟨g,e5,_,w5⟩:=DataW.trod_int Tryz.underlying3 s5;obtain⟨f,e6,_⟩:=DataW.trod_int Tryz.underlying3 s6;obtain⟨r,e7,_⟩:=DataW.trod_int Tryz.underlying3 s7;obtain⟨q,e8,_⟩:=DataW.trod_int Tryz.underlying3 s8;obtain⟨m,e9,_⟩:=DataW.trod_int Tryz.underlying3 s9;have hg:IntKind.i64.min<=g/\g<=9223372036854775807:=by simpa[Lit.wf]using w5
  cases e0;cases e5;cases e6;cases e7;cases e8;cases e9;rcases open_strings Tryz.underlying22 Tryz.underlying9 cells9 s1 with⟨e1,_⟩|⟨a,len,cap,ss,e1,_,hl,hm,hz,_,hcell,_⟩
  ·cases e1;exact⟨⟨t,none,0,0,c2,c3,c4,g,f,r,q,m⟩,[],rfl,⟨rfl,fun i hi=>by simp at hi⟩,hg,slc Tryz.underlying22 s2,slc Tryz.underlying23 s3,slc Tryz.underlying23 s4⟩
  ·cases e1;simp only[if_true]at hz;refine⟨⟨t,some a,len,cap,c2,c3,c4,g,f,r,q,m⟩,ss.take len,rfl,⟨by simp;omega,fun i hi=>?_⟩,hg,slc Tryz.underlying22 s2,slc Tryz.underlying23 s3,slc Tryz.underlying23 s4⟩;have hi:i<len:=by simp at hi;omega
   have hc:=hcell i (by omega);obtain⟨b,off,spot⟩:=a;obtain rfl:spot=none:=by simpa[Addr.add]using World.cell?_spot (hcell 0 (by omega))
   rw[add_plain]at hc;refine⟨b,off,rfl,World.block_lt_of_cell? W _ hc,?_⟩;rw[hc];simp only[List.getD_eq_getElem?_getD,List.getElem?_take,hi,if_true];rfl
theorem sub_in{H:Type}{enc:TypeId×Value->H}{W:World}{base:Nat}{v:Value}{d:DataW H}{p:List MemPlace}(hv:Value.okWide Tryz.prog W .any base 25 v)(h:DataW.Trod enc Tryz.prog W 0 (fun _=>true) true 25 v d p):
  ∃(z:SubV) (ts:List ByteArray),v=.agg z.c/\SubAt z ts W/\(-9223372036854775808<=z.g/\z.g<=9223372036854775807)/\Slc z.li/\Slc z.ti/\Slc z.dr:=by
 obtain⟨⟨l⟩,rfl,hsz⟩:=okWide_struct Tryz.underlying25 hv;obtain⟨fuel,hf⟩:=h;obtain⟨z,ts,e,hs⟩:=sub_cells (hsz.trans cells25) hf;exact⟨z,ts,congrArg Value.agg (Array.toList_inj.1 e),hs⟩
theorem bytes9:Tryz.prog.bytesOf 9=16:=by kernel_rfl
theorem strs_in{H:Type}{enc:TypeId×Value->H}{W:World}{base:Nat}{v:Value}{d:DataW H}{p:List MemPlace}(hv:Value.okWide Tryz.prog W .any base 22 v)(h:DataW.Trod enc Tryz.prog W 0 (fun _=>true) true 22 v d p):
  ∃(a:Option Addr) (n c:Nat) (ss:List ByteArray),v=.slice a n c/\StrsAt W a ss/\n=ss.length/\(n=0\/∃el sp,d=.slice el sp/\n<=el.length):=by
 obtain⟨fuel,hf⟩:=h;obtain⟨a0,n0,c0,rfl⟩:∃a n c,v=.slice a n c:=okWide_slice Tryz.underlying22 hv;rcases open_strings Tryz.underlying22 Tryz.underlying9 cells9 hf with⟨e1,_⟩|⟨a,len,cap,ss,e1,_,hl,hm,hz,hd,hcell,_⟩
 ·cases e1;exact⟨none,0,0,[],rfl,fun i hi=>by simp at hi,rfl,.inl rfl⟩
 ·cases e1;simp only[if_true]at hz;refine⟨some a,n0,c0,ss.take n0,rfl,fun i hi=>?_,by simp;omega,.inr ⟨_,_,congrArg Prod.fst hd,by simp[strs];omega⟩⟩;have hi:i<n0:=by simp at hi;omega
  have hc:=hcell i (by omega);obtain⟨b,off,spot⟩:=a;obtain rfl:spot=none:=by simpa[Addr.add]using World.cell?_spot (hcell 0 (by omega))
  rw[add_plain]at hc;refine⟨b,off,rfl,World.block_lt_of_cell? W _ hc,?_⟩;rw[hc];simp only[List.getD_eq_getElem?_getD,List.getElem?_take,hi,if_true];rfl
end Go.Proofs.YtmjepkgaobnfmaaGreatDoor
