import Derived.Test.YtfdenibloihbdaaGreatDoorM06
set_option maxRecDepth 100000
set_option maxHeartbeats 4000000
namespace Go.Proofs.YtfdenibloihbdaaGreatDoor
open Tryz hiding parts
open Go.Value renaming slice→Sl,string→Sg,iface→If,tuple→Tu,agg→Ag
open Go.Obj renaming cells→Cl
open Go.Ending renaming returned→Rt,panicked→Pk
open _root_.Option renaming some→sT,none→sV
open _root_.Bool renaming true→xA,false→xN
section
open Go.RowKit Go.Shelf
open Sc
theorem confined4{z:SubV}{ts:List BA}{w:Wd}{v:OA}{x lc:Nat}(ok:OkW w)(h:SubAt z ts w)(y:z.li=Sl v x lc):Cp 4 #[Ag z.c] w λe w'=>e=Rt (.bool xA)/\Bt w w':=by
 obtain⟨j,k,n,s,st,u,rw,A⟩:∃j k n s st u rw,fB (dQ z) z ts=⟨j,k,n,s,st,u,rw⟩:=⟨_,_,_,_,_,_,_,rfl⟩;obtain⟨t,sa,B,sc,J,C,D,g,f,r,q,m⟩:=z;cases y;have K:Hid (∀w',Bt w w'->Cp 7 #[Ag #[Sg t,Sl sa B sc,Sl v x lc,C,D,Ii g,Ii f,Ii r,Ii q,Ii m]] w' λe w2=>e=Rt (Tu #[Ag #[Ii j,Ii k,Ii n,Sg s,Sg ⟨#[]⟩,Ii st,Ii u,Ii rw,Sl sV 0 0],.bool xA])/\Bt w' w2):=λw' a=>by have:=uM (ok.below a) (h.below a);rw[A]at this;exact this
 have W:=hZ (λw' (a:Bt w w')=>xQ w' (ok.below a));clear ok h A;show Cp 4 #[Ag #[Sg t,Sl sa B sc,Sl v x lc,C,D,Ii g,Ii f,Ii r,Ii q,Ii m]] w _;delta Cp;go_in;go_wp2_with (go_at_call 5;refine iF (W.o _ (aA _ _)) λE a=>?_;refine hO ?_);obtain⟨c0,c1,c2,c3,c4,c5,c6,G,H,c9⟩:=lJ (w:=E) (b:=w.heap.size) (T:=25) ((a.block _ Sm).t (eN _ _));have d:=hZ ((aA w _).t (a.mo Sm));have F:w.heap.size<E.heap.size:=by have:=a.size;simp at this;omega
 clear a;refine hZ ?_;go_wp2_with (go_at_call 7;refine iF (K.o _ d.o) λw2 a=>?_;refine hO ?_);have L:=(a.cell (p:=Ab w.heap.size 2) F).t c2;have I:w.heap.size<w2.heap.size:=eW F a.size;replace d:=hZ (d.o.t (a.mo Om));clear a c0 c1 c2 c3 c4 c5 c6 G H c9;refine hZ ?_;go_wp2;go_loopw [6,7,8] (λo l i wr=>o=Sg ⟨#[]⟩/\l=Ii 0/\i=Ii 0/\wr=w2.alloc (Cl #[Ii j,Ii k,Ii n,Sg s,Sg ⟨#[]⟩,Ii st,Ii u,Ii rw,Sl sV 0 0] 31)) (λ_ _ _ _=>0);case atStart=>exact⟨rfl,rfl,rfl,rfl⟩
 case round=>obtain⟨rfl,rfl,rfl,rfl⟩:=hrel;go_wp2;go_ret;exact⟨rfl,d.o.alloc d.o.size _⟩
end
end Go.Proofs.YtfdenibloihbdaaGreatDoor
