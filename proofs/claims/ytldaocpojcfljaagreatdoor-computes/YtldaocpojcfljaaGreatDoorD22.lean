import Derived.Test.YtldaocpojcfljaaGreatDoorD21
import Derived.Laws.ResultCell
set_option maxRecDepth 100000
set_option maxHeartbeats 4000000
namespace Go.Proofs.YtldaocpojcfljaaGreatDoor
open Tryz hiding parts
open Go.RowKit Go.Shelf
section
open Sc
theorem run25(b:Nat)(t:ByteArray)(w:World)(Q:Ending->World->Prop)(h:∀w',Below w.heap.size w w'->w'.heap.size=w.heap.size+2->w'.heap[w.heap.size+1]? =some (.cells (resC 0 0 0 ⟨#[]⟩ 0 0 0) 29 (0,0))->Calls prog 37 #[.agg (subC t)] w' fun e w2=>∃ve re pl va st ce rw,e=.returned (.agg (resC ve re pl va st ce rw))/\w2.heap[w.heap.size+1]? =some (.cells (resC 0 0 0 ⟨#[]⟩ 0 0 0) 29 (0,0))/\Below w.heap.size w w2/\∀w3,Below w.heap.size w w3->Q (.returned (.agg (resC ve re pl va st ce rw))) w3):Calls prog 25 #[bp b,.agg (subC t)] w Q:=by
 have H:=hZ h;clear h;show Calls prog 25 #[bp b,.agg #[.string t,.slice none 0 0,.slice none 0 0,.slice none 0 0,.slice none 0 0,.int .i64 0,.int .i64 20000,.int .i64 500,.int .i64 5000,.int .i64 2000]] w Q;go_enter func25,ntmps25
 go_wp2_with (go_at_call 37;refine(H.out _ (by exact(qab _ _).alloc (by simp) _) (by simp) (by exact heap_alloc2_new _ _ _)).mono ?_;rintro e w2 ⟨ve,re,pl,va,st,ce,rw,rfl,hrs,hbw,hK⟩;refine Hid.out ?_)
 have hfz:∀o,w2.frozen? ⟨w.heap.size+1,o,none⟩=false:=fun o=>by simp[World.frozen?,hrs]
 have b0:w2.cell? ⟨w.heap.size+1,0,none⟩=some (.int .i64 0):=by simp only[World.cell?,hrs];rfl
 have b1:w2.cell? ⟨w.heap.size+1,1,none⟩=some (.int .i64 0):=by simp only[World.cell?,hrs];rfl
 have b2:w2.cell? ⟨w.heap.size+1,2,none⟩=some (.int .i64 0):=by simp only[World.cell?,hrs];rfl
 have b3:w2.cell? ⟨w.heap.size+1,3,none⟩=some (.string ⟨#[]⟩):=by simp only[World.cell?,hrs];rfl
 have b4:w2.cell? ⟨w.heap.size+1,4,none⟩=some (.string ⟨#[]⟩):=by simp only[World.cell?,hrs];rfl
 have b5:w2.cell? ⟨w.heap.size+1,5,none⟩=some (.int .i64 0):=by simp only[World.cell?,hrs];rfl
 have b6:w2.cell? ⟨w.heap.size+1,6,none⟩=some (.int .i64 0):=by simp only[World.cell?,hrs];rfl
 have b7:w2.cell? ⟨w.heap.size+1,7,none⟩=some (.int .i64 0):=by simp only[World.cell?,hrs];rfl
 have b8:w2.cell? ⟨w.heap.size+1,8,none⟩=some (.slice none 0 0):=by simp only[World.cell?,hrs];rfl
 have HFin:=hZ (qec (v0:=.int .i64 ve) (v1:=.int .i64 re) (v2:=.int .i64 pl) (v3:=.string va) (v4:=.string ⟨#[]⟩) (v5:=.int .i64 st) (v6:=.int .i64 ce) (v7:=.int .i64 rw) (v8:=.slice none 0 0) hrs);have HBel:=hZ (qdr (v0:=.int .i64 ve) (v1:=.int .i64 re) (v2:=.int .i64 pl) (v3:=.string va) (v4:=.string ⟨#[]⟩) (v5:=.int .i64 st) (v6:=.int .i64 ce) (v7:=.int .i64 rw) (v8:=.slice none 0 0) hbw (Nat.le_succ w.heap.size));have HK:=hZ hK;clear hK hrs hbw H;refine hZ ?_;unfold resC;go_wp2;have hfin:=HFin.out;have hbel:=HBel.out;unfold set9 at hfin hbel;generalize (((((((((w2.setCell ⟨w.heap.size+1,0,none⟩ (.int .i64 ve)).setCell ⟨w.heap.size+1,1,none⟩ (.int .i64 re)).setCell ⟨w.heap.size+1,2,none⟩ (.int .i64 pl)).setCell ⟨w.heap.size+1,3,none⟩ (.string va)).setCell ⟨w.heap.size+1,4,none⟩ (.string ⟨#[]⟩)).setCell ⟨w.heap.size+1,5,none⟩ (.int .i64 st)).setCell ⟨w.heap.size+1,6,none⟩ (.int .i64 ce)).setCell ⟨w.heap.size+1,7,none⟩ (.int .i64 rw)).setCell ⟨w.heap.size+1,8,none⟩ (.slice none 0 0))=Z at hfin hbel|-;refine bodyPost_ret (results_cell_row (p:=4) (ty:=29) (by kernel_rfl) _ _ (w.heap.size+1) 29 (resC ve re pl va st ce rw) (0,0) _ rfl hfin underlying29 rfl (by kernel_rfl)) rfl ?_;exact HK.out _ hbel
end
section
open Sc
theorem run14(t:ByteArray)(w:World)(Q:Ending->World->Prop)(h:∀b w',Below (w.heap.size+2) ((w.alloc (.cells (subC t) 34)).alloc (.cells (resC 0 0 0 ⟨#[]⟩ 0 0 0) 29)) w'->Calls prog 25 #[bp b,.agg (subC t)] w' fun e w2=>∃ve re pl va st ce rw,e=.returned (.agg (resC ve re pl va st ce rw))/\w2.heap[w.heap.size+1]? =some (.cells (resC 0 0 0 ⟨#[]⟩ 0 0 0) 29 (0,0))/\Below w.heap.size w w2/\∀w3,Below w.heap.size w w3->Q (.returned (.tuple #[.agg (resC ve re pl va st ce rw),.bool true])) w3):Calls prog 14 #[.agg (subC t)] w Q:=by
 have H:=hZ h;clear h;show Calls prog 14 #[.agg #[.string t,.slice none 0 0,.slice none 0 0,.slice none 0 0,.slice none 0 0,.int .i64 0,.int .i64 20000,.int .i64 500,.int .i64 5000,.int .i64 2000]] w Q;go_enter func14,ntmps14
 go_wp2_with (go_at_call 22;refine(new22 _).mono ?_;rintro e w1 ⟨rfl,hb⟩;refine Hid.out ?_)
 have hz:((w.alloc (.cells (subC t) 34)).alloc (.cells (resC 0 0 0 ⟨#[]⟩ 0 0 0) 29)).heap.size=w.heap.size+2:=by simp
 have hb1:Below (w.heap.size+2) ((w.alloc (.cells (subC t) 34)).alloc (.cells (resC 0 0 0 ⟨#[]⟩ 0 0 0) 29)) w1:=by rw[<-hz];exact hb
 have hb0:w1.heap[w.heap.size]? =some (.cells (subC t) 34 (0,0)):=by
  rw[hb1.block _ (by omega),Below.heap_alloc _ _ _ (by simp)];exact heap_alloc_new _ _
 have v0:w1.cell? ⟨w.heap.size,0,none⟩=some (.string t):=by simp only[World.cell?,hb0];rfl
 have v1:w1.cell? ⟨w.heap.size,1,none⟩=some (.slice none 0 0):=by simp only[World.cell?,hb0];rfl
 have v2:w1.cell? ⟨w.heap.size,2,none⟩=some (.slice none 0 0):=by simp only[World.cell?,hb0];rfl
 have v3:w1.cell? ⟨w.heap.size,3,none⟩=some (.slice none 0 0):=by simp only[World.cell?,hb0];rfl
 have v4:w1.cell? ⟨w.heap.size,4,none⟩=some (.slice none 0 0):=by simp only[World.cell?,hb0];rfl
 have v5:w1.cell? ⟨w.heap.size,5,none⟩=some (.int .i64 0):=by simp only[World.cell?,hb0];rfl
 have v6:w1.cell? ⟨w.heap.size,6,none⟩=some (.int .i64 20000):=by simp only[World.cell?,hb0];rfl
 have v7:w1.cell? ⟨w.heap.size,7,none⟩=some (.int .i64 500):=by simp only[World.cell?,hb0];rfl
 have v8:w1.cell? ⟨w.heap.size,8,none⟩=some (.int .i64 5000):=by simp only[World.cell?,hb0];rfl
 have v9:w1.cell? ⟨w.heap.size,9,none⟩=some (.int .i64 2000):=by simp only[World.cell?,hb0];rfl
 have HB1:=hZ hb1;clear hb hz hb1 hb0;refine hZ ?_;go_wp2_with (go_at_call 25;refine(H.out _ _ HB1.out).mono ?_;rintro e w3 ⟨ve,re,pl,va,st,ce,rw,rfl,hrs,hbw,hK⟩;refine Hid.out ?_)
 have hfz:∀o,w3.frozen? ⟨w.heap.size+1,o,none⟩=false:=fun o=>by simp[World.frozen?,hrs]
 have b0:w3.cell? ⟨w.heap.size+1,0,none⟩=some (.int .i64 0):=by simp only[World.cell?,hrs];rfl
 have b1:w3.cell? ⟨w.heap.size+1,1,none⟩=some (.int .i64 0):=by simp only[World.cell?,hrs];rfl
 have b2:w3.cell? ⟨w.heap.size+1,2,none⟩=some (.int .i64 0):=by simp only[World.cell?,hrs];rfl
 have b3:w3.cell? ⟨w.heap.size+1,3,none⟩=some (.string ⟨#[]⟩):=by simp only[World.cell?,hrs];rfl
 have b4:w3.cell? ⟨w.heap.size+1,4,none⟩=some (.string ⟨#[]⟩):=by simp only[World.cell?,hrs];rfl
 have b5:w3.cell? ⟨w.heap.size+1,5,none⟩=some (.int .i64 0):=by simp only[World.cell?,hrs];rfl
 have b6:w3.cell? ⟨w.heap.size+1,6,none⟩=some (.int .i64 0):=by simp only[World.cell?,hrs];rfl
 have b7:w3.cell? ⟨w.heap.size+1,7,none⟩=some (.int .i64 0):=by simp only[World.cell?,hrs];rfl
 have b8:w3.cell? ⟨w.heap.size+1,8,none⟩=some (.slice none 0 0):=by simp only[World.cell?,hrs];rfl
 have HFin:=hZ (qec (v0:=.int .i64 ve) (v1:=.int .i64 re) (v2:=.int .i64 pl) (v3:=.string va) (v4:=.string ⟨#[]⟩) (v5:=.int .i64 st) (v6:=.int .i64 ce) (v7:=.int .i64 rw) (v8:=.slice none 0 0) hrs);have HBel:=hZ (qdr (v0:=.int .i64 ve) (v1:=.int .i64 re) (v2:=.int .i64 pl) (v3:=.string va) (v4:=.string ⟨#[]⟩) (v5:=.int .i64 st) (v6:=.int .i64 ce) (v7:=.int .i64 rw) (v8:=.slice none 0 0) hbw (Nat.le_succ w.heap.size));have HK:=hZ hK;clear hK hrs hbw H;refine hZ ?_;unfold resC;go_wp2;have hfin:=HFin.out;have hbel:=HBel.out;unfold set9 at hfin hbel;generalize (((((((((w3.setCell ⟨w.heap.size+1,0,none⟩ (.int .i64 ve)).setCell ⟨w.heap.size+1,1,none⟩ (.int .i64 re)).setCell ⟨w.heap.size+1,2,none⟩ (.int .i64 pl)).setCell ⟨w.heap.size+1,3,none⟩ (.string va)).setCell ⟨w.heap.size+1,4,none⟩ (.string ⟨#[]⟩)).setCell ⟨w.heap.size+1,5,none⟩ (.int .i64 st)).setCell ⟨w.heap.size+1,6,none⟩ (.int .i64 ce)).setCell ⟨w.heap.size+1,7,none⟩ (.int .i64 rw)).setCell ⟨w.heap.size+1,8,none⟩ (.slice none 0 0))=Z at hfin hbel|-;have hld:=run_loadVar_row Z (w.heap.size+1) 29 29 (resC ve re pl va st ce rw) (0,0) _ hfin underlying29 rfl (by kernel_rfl);refine bodyPost_ret (v:=.tuple #[.agg (resC ve re pl va st ce rw),.bool true]) (by rw[results_cell_tmp (p:=2) (u:=3) (ty:=29) (by kernel_rfl)];simp[asAddr,hld]) rfl ?_;exact HK.out _ hbel
end
section
open Sc
def KeptR(r:(Option Nat×Nat)×Option Vl×Xs×Mc)(w:World)(e:Ending)(w':World):Prop:=∃ve pl va st ce rw,e=.returned (.tuple #[.agg (resC ve 0 pl va st ce rw),.bool true])/\RunIs r ve pl va st ce rw/\Below w.heap.size w w'
theorem kept_of{t:ByteArray}{w:World}{S:Sub}(hS:S.fuel=20000/\S.quota=5000/\S.rewrites=500)(hT:GT w)(hV:Rd.GV w)(h6:6<=w.heap.size)(hs:t.size<=1200)(fs:List (Dt×Nat))(rr:List UInt8)(htop:Py.topP (2*t.size+2) (Rd.L t 0)=.inr (fs,rr))(hns:∀f,f∈fs->¬isSyn f.1)
  (hne:(deal S (fs.map fun f=>(f.1,t.size-f.2)) none {} mStart).1.1≠some 0):Calls prog 14 #[.agg (subC t)] w (KeptR (deal S (fs.map fun f=>(f.1,t.size-f.2)) none {} mStart) w):=by
 refine run14 t w _ fun b w1 hb1=>?_
 have hz:((w.alloc (.cells (subC t) 34)).alloc (.cells (resC 0 0 0 ⟨#[]⟩ 0 0 0) 29)).heap.size=w.heap.size+2:=by simp
 have hb0:Below w.heap.size w ((w.alloc (.cells (subC t) 34)).alloc (.cells (resC 0 0 0 ⟨#[]⟩ 0 0 0) 29)):=(qab _ _).alloc (by simp) _;have hw1:Below w.heap.size w w1:=hb0.trans (hb1.mono (by omega));have hs1:w.heap.size+2<=w1.heap.size:=by have:=hb1.size;omega
 have hr1:w1.heap[w.heap.size+1]? =some (.cells (resC 0 0 0 ⟨#[]⟩ 0 0 0) 29 (0,0)):=by rw[hb1.block _ (by omega)];exact heap_alloc2_new _ _ _
 refine run25 b t w1 _ fun w2 hb2 hz2 hr2=>?_
 have hT2:GT w2:=(hT.keep (hw1.block 0 (by omega))).keep (hb2.block 0 (by omega));have hV2:Rd.GV w2:=GV.below (GV.below hV hw1 h6) hb2 (by omega);refine Calls.mono (qsj hS hT2 hV2 (by omega) hs fs rr htop hns hne) ?_;rintro e w3 ⟨ve,pl,va,st,ce,rw,rfl,hr,hb3⟩;have k3:∀w4,Below w1.heap.size w1 w4->Below w.heap.size w w4:=fun w4 h=>hw1.trans (h.mono (by omega))
 refine⟨ve,0,pl,va,st,ce,rw,rfl,by rw[hb3.block _ (by omega)];exact hr2,hb2.trans (hb3.mono (by omega)),fun w4 hb4=>⟨ve,0,pl,va,st,ce,rw,rfl,by rw[hb4.block _ (by omega)];exact hr1,k3 w4 hb4,fun w5 hb5=>⟨ve,pl,va,st,ce,rw,rfl,hr,hb5⟩⟩⟩
end
section
open Sc
theorem truth17(b:Bool)(w:World):Calls prog 17 #[.bool b] w fun e w'=>e=.returned (.string (if b then⟨#[35,116]⟩else⟨#[35,102]⟩))/\Lk w w':=by
 cases b
 ·go_enter func17,ntmps17
  go_wp2;go_ret;exact⟨rfl,rfl,rfl,rfl,rfl⟩
 ·go_enter func17,ntmps17
  go_wp2;go_ret;exact⟨rfl,rfl,rfl,rfl,rfl⟩
theorem sum13(a b:Int)(w:World)(ha:-9223372036854775808<=a/\a<=9223372036854775807)(hb:-9223372036854775808<=b/\b<=9223372036854775807):
  Calls prog 13 #[.int .i64 a,.int .i64 b] w fun e w'=>(∃n,e=.returned (.tuple #[.int .i64 n,.bool (fits (a+b))])/\(fits (a+b)=true->n=a+b)/\-9223372036854775808<=n/\n<=9223372036854775807)/\Lk w w':=by
 go_enter func13,ntmps13
 go_wp2
 ·go_ret2
  rename_i hs;have hf:(decide (0<=wrap64 (a+b))==decide (0<=b))=fits (a+b):=by
   rw[Bool.eq_iff_iff,beq_iff_eq,decide_eq_decide];unfold fits;rw[decide_eq_true_iff];unfold wrap64;constructor <;> intro h <;> omega
  refine⟨⟨wrap64 (a+b),?_,fun h=>?_,by unfold wrap64;omega,by unfold wrap64;omega⟩,rfl,rfl,rfl,rfl⟩
  ·rw[<-hf];rfl
  ·unfold fits at h;have h2:=of_decide_eq_true h;unfold wrap64;omega
 ·go_ret2
  rename_i hs;have hf:true=fits (a+b):=(decide_eq_true ⟨by omega,by omega⟩).symm;refine⟨⟨wrap64 (a+b),?_,fun h=>?_,by unfold wrap64;omega,by unfold wrap64;omega⟩,rfl,rfl,rfl,rfl⟩
  ·rw[<-hf];rfl
  ·unfold fits at h;have h2:=of_decide_eq_true h;unfold wrap64;omega
theorem gives16(t v:ByteArray)(w:World)(h:∀w',Below w.heap.size w w'->Calls prog 14 #[.agg (subC t)] w' fun e w2=>∃st ce rw,e=.returned (.tuple #[.agg (resC 1 0 0 v st ce rw),.bool true])/\Below w'.heap.size w' w2):Calls prog 16 #[.string t,.string v] w fun e w'=>e=.returned (.bool true)/\Below w.heap.size w w':=by
 have H:=hZ h;clear h;go_enter func16,ntmps16
 go_wp2_with (go_at_call 15;refine(qrp _ _).mono ?_;rintro e w1 ⟨rfl,hb1⟩;refine Hid.out ?_)
 have HB:=hZ hb1;clear hb1;refine hZ ?_;go_wp2_with (go_at_call 14;refine(H.out _ HB.out).mono ?_;rintro e w2 ⟨st,ce,rw,rfl,hb2⟩;refine Hid.out ?_)
 have HB2:=hZ (HB.out.trans (hb2.mono HB.out.size));clear hb2 HB H;refine hZ ?_;unfold resC;go_wp2;go_ret;exact⟨rfl,HB2.out.alloc (by simpa using HB2.out.size) _⟩
end
end Go.Proofs.YtldaocpojcfljaaGreatDoor
