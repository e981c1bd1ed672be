import Derived.Test.YtldaocpojcfljaaGreatDoorM10
set_option maxRecDepth 100000
set_option maxHeartbeats 4000000
namespace Go.Proofs.YtldaocpojcfljaaGreatDoor
open Tryz hiding parts
open Go.RowKit Go.Shelf
open Sc
variable {G H:Gh}{Pn:List Pd}{S:Sub}{g i k lo mb tb:Nat}{is js:List Nat}{l:List Dt}{t:Dt}{vs:List Vu}{w w0:Wd}
theorem qqj(tb:Nat)(d:Int)(a:Bool)(f:Int)(g:OA)(h i:Nat)(deep:Int)(w:Wd):Calls prog 391 #[bp tb,.agg (Dl.cells ⟨3,d,a,⟨#[46,46,46]⟩,f,g,h,i⟩),.int .i64 deep] w λe w'=>e=.panicked (qan (qap 4))/\Below w.heap.size w w':=by
 show Calls prog 391 #[bp tb,.agg #[.int .i64 3,.int .i64 d,.bool a,.string ⟨#[46,46,46]⟩,.int .i64 f,.slice g h i],.int .i64 deep] w _;go_enter func391,ntmps391
 go_wp2_with (first|(go_at_call 296;refine(qa8 d a ⟨#[46,46,46]⟩ f g h i _).mono ?_;rintro e w3 ⟨rfl,c⟩;have b:Hid (Below w.heap.size w w3):=(qaa _ _).trans (c.mono (by simp));clear c;refine Hid.out ?_))
 refine hZ ?_;unfold idV;go_wp2_with (go_at_call 290;refine(qav _).mono ?_;rintro e w4 ⟨rfl,o,rfl⟩)
 exact⟨rfl,rfl,(b.out.alloc b.out.size _).alloc (by simp;have:=b.out.size;omega) _⟩
theorem qqi(tb n s:Nat)(t:OA)(rv:Vu)(k:Int)(b:Bool)(a:BA)(c:Int)(l:OA)(m o:Nat)(deep:Int)(w:Wd)(z:(a.toList== [46,46,46])=false)(p:w.heap[tb]? =some (.cells #[.slice t n s,rv] 445 (0,0)))
  (f:∀W y,Below w.heap.size w W->W.heap[y]? =some (.cells #[.string a,.int .i64 c] 382 (0,0))->Calls prog 406 #[.slice t n s,.func (.func 407) #[] #[bp y]] W λe w2=>e=.returned (.int .i64 (-1))/\Below W.heap.size W w2):
  Calls prog 391 #[bp tb,.agg (Dl.cells ⟨3,k,b,a,c,l,m,o⟩),.int .i64 deep] w λe w'=>e=.returned (.func (.func 408) #[] #[bp w.heap.size])/\w'.heap[w.heap.size]? =some (.cells (Dl.cells ⟨3,k,b,a,c,l,m,o⟩) 134 (0,0))/\Below w.heap.size w w':=by
 show Calls prog 391 #[bp tb,.agg #[.int .i64 3,.int .i64 k,.bool b,.string a,.int .i64 c,.slice l m o],.int .i64 deep] w _;have u:=(eE.1 p).1;have A:¬a.toList=[46,46,46]:=by simpa using z
 have v:Hid (∀W,Below w.heap.size w W->W.heap[tb]? =some (.cells #[.slice t n s,rv] 445 (0,0))):=λW B=>(B.block _ u).trans p
 have C:=hZ f;clear f;go_enter func391,ntmps391
 go_wp2_with (first|(go_at_call 296;refine(qa8 k b a c l m o _).mono ?_;rintro e w3 ⟨rfl,g⟩;have q:Hid (Below w.heap.size w w3):=(qaa _ _).trans (g.mono (by simp));have h:Hid (w3.heap[w.heap.size]? =some (.cells #[.int .i64 3,.int .i64 k,.bool b,.string a,.int .i64 c,.slice l m o] 134 (0,0))):=(g.block _ (by simp)).trans (eN _ _);clear g;refine Hid.out ?_))
 have d:Hid (Below w.heap.size w (w3.alloc (.cells #[.string a,.int .i64 c] 382))):=q.out.alloc q.out.size _;have c0:(w3.alloc (.cells #[.string a,.int .i64 c] 382)).cell? ⟨tb,0,none⟩=some (.slice t n s):=by simp only[World.cell?,v.out _ d.out];rfl
 refine hZ ?_;unfold idV;go_wp2_with (first|(go_at_call 290;refine(qak _).mono ?_;rintro e w4 ⟨rfl,x⟩;obtain rfl:=x.symm)|(go_at_call 406;refine(C.out _ w3.heap.size d.out (eN _ _)).mono ?_;rintro e w4 ⟨rfl,i⟩;have j:Hid (Below w.heap.size w w4):=d.out.trans (i.mono d.out.size);have r:Hid (w4.heap[w.heap.size]? =some (.cells #[.int .i64 3,.int .i64 k,.bool b,.string a,.int .i64 c,.slice l m o] 134 (0,0))):=(i.block _ (by have:=(eE.1 h.out).1;simp;omega)).trans ((eH _ _ _ (eE.1 h.out).1).trans h.out);clear i;refine Hid.out ?_))
 have D:=j.out.size;refine hZ ?_;go_wp2;go_ret;exact⟨rfl,(eH _ _ _ (eE.1 r.out).1).trans r.out,j.out.alloc j.out.size _⟩
theorem qqg(tb n p:Nat)(q:OA)(rv:Vu)(r:Int)(f:Bool)(c:BA)(j:Int)(s:OA)(t u:Nat)(deep:Int)(w:Wd)(a:Nat)(G:Int)(z:G=0)(A:∀W,Below w.heap.size w W->∃g,q=some ⟨g,0,none⟩/\W.cell? ⟨g,a*3+2,none⟩=some (.int .i64 G))(N:a<n)(_:n<=1000000000000)(O:(c.toList== [46,46,46])=false)(v:w.heap[tb]? =some (.cells #[.slice q n p,rv] 445 (0,0)))
  (k:∀W H,Below w.heap.size w W->W.heap[H]? =some (.cells #[.string c,.int .i64 j] 382 (0,0))->Calls prog 406 #[.slice q n p,.func (.func 407) #[] #[bp H]] W λe w2=>e=.returned (.int .i64 (a:Int))/\Below W.heap.size W w2):
  Calls prog 391 #[bp tb,.agg (Dl.cells ⟨3,r,f,c,j,s,t,u⟩),.int .i64 deep] w λe w'=>∃b,e=.returned (.func (.func 409) #[] #[bp b])/\w.heap.size<=b/\w'.heap[b]? =some (.cells #[.int .i64 (a:Int)] 3 (0,0))/\Below w.heap.size w w':=by
 subst z;show Calls prog 391 #[bp tb,.agg #[.int .i64 3,.int .i64 r,.bool f,.string c,.int .i64 j,.slice s t u],.int .i64 deep] w _;have B:=(eE.1 v).1;have P:¬c.toList=[46,46,46]:=by simpa using O
 have h:Hid (∀W,Below w.heap.size w W->W.heap[tb]? =some (.cells #[.slice q n p,rv] 445 (0,0))):=λW Q=>(Q.block _ B).trans v
 have R:=hZ k;clear k;go_enter func391,ntmps391
 go_wp2_with (first|(go_at_call 296;refine(qa8 r f c j s t u _).mono ?_;rintro e w3 ⟨rfl,l⟩;have x:Hid (Below w.heap.size w w3):=(qaa _ _).trans (l.mono (by simp));have m:Hid (w3.heap[w.heap.size]? =some (.cells #[.int .i64 3,.int .i64 r,.bool f,.string c,.int .i64 j,.slice s t u] 134 (0,0))):=(l.block _ (by simp)).trans (eN _ _);clear l;refine Hid.out ?_))
 have i:Hid (Below w.heap.size w (w3.alloc (.cells #[.string c,.int .i64 j] 382))):=x.out.alloc x.out.size _;have c0:(w3.alloc (.cells #[.string c,.int .i64 j] 382)).cell? ⟨tb,0,none⟩=some (.slice q n p):=by simp only[World.cell?,h.out _ i.out];rfl
 refine hZ ?_;unfold idV;go_wp2_with (first|(go_at_call 290;refine(qak _).mono ?_;rintro e w4 ⟨rfl,C⟩;obtain rfl:=C.symm)|(go_at_call 406;refine(R.out _ w3.heap.size i.out (eN _ _)).mono ?_;rintro e w4 ⟨rfl,o⟩;have d:Hid (Below w.heap.size w w4):=i.out.trans (o.mono i.out.size);have S:Hid (w4.heap[w.heap.size]? =some (.cells #[.int .i64 3,.int .i64 r,.bool f,.string c,.int .i64 j,.slice s t u] 134 (0,0))):=(o.block _ (by have:=(eE.1 m.out).1;simp;omega)).trans ((eH _ _ _ (eE.1 m.out).1).trans m.out);clear o;refine Hid.out ?_))
 have D:=d.out.size;obtain⟨g,rfl,I⟩:=A _ d.out;have J:(a:Int)<(n:Int):=by omega
 have K:(0:Int)<=(a:Int):=by omega
 have L:¬(a:Int)<0:=by omega
 have T:=qae I;have y:=(eE.1 (h.out _ d.out)).1;have U:(w4.alloc (.cells #[.int .i64 (a:Int)] 3)).cell? ⟨tb,0,none⟩=some (.slice (some ⟨g,0,none⟩) n p):=by simp only[World.cell?,eH _ _ _ y,h.out _ d.out];rfl
 have t1:(w4.alloc (.cells #[.int .i64 (a:Int)] 3)).cell? ⟨tb,1,none⟩=some rv:=by simp only[World.cell?,eH _ _ _ y,h.out _ d.out];rfl
 have X:(w4.alloc (.cells #[.int .i64 (a:Int)] 3)).cell? ⟨w4.heap.size,0,none⟩=some (.int .i64 (a:Int)):=by simp only[World.cell?,eN];rfl
 have E:=(qac T (.cells #[.int .i64 (a:Int)] 3)).trans I;refine hZ ?_;go_wp2_with (fail)
 generalize M:w4.alloc (.cells #[.int .i64 (a:Int)] 3)=V at U t1 X E|-;have F:Hid (Below w.heap.size w V/\V.heap[w4.heap.size]? =some (.cells #[.int .i64 (a:Int)] 3 (0,0))):=by rw[<-M];exact⟨d.out.alloc d.out.size _,eN _ _⟩
 clear M;go_quiet (fail)
 go_wp2;go_ret;exact⟨_,rfl,D,F.out.2,qo6 ⟨rfl,rfl,rfl,rfl⟩ F.out.1.size|>F.out.1.trans⟩
theorem qte(tb n p:Nat)(q:OA)(rv:Vu)(r:Int)(d:Bool)(b:BA)(i:Int)(s:OA)(t u:Nat)(deep:Int)(w:Wd)(a:Nat)(z:Int)(L:0<z)(hne:z≠deep)(A:∀W,Below w.heap.size w W->∃g,q=some ⟨g,0,none⟩/\W.cell? ⟨g,a*3+2,none⟩=some (.int .i64 z))(M:a<n)(_:n<=1000000000000)(N:(b.toList== [46,46,46])=false)(v:w.heap[tb]? =some (.cells #[.slice q n p,rv] 445 (0,0)))
  (j:∀W F,Below w.heap.size w W->W.heap[F]? =some (.cells #[.string b,.int .i64 i] 382 (0,0))->Calls prog 406 #[.slice q n p,.func (.func 407) #[] #[bp F]] W λe w2=>e=.returned (.int .i64 (a:Int))/\Below W.heap.size W w2):
  Calls prog 391 #[bp tb,.agg (Dl.cells ⟨3,r,d,b,i,s,t,u⟩),.int .i64 deep] w λe w'=>e=.panicked (qan (qap 4))/\Below w.heap.size w w':=by
 have e1:(z==deep)=false:=by simpa using hne
 show Calls prog 391 #[bp tb,.agg #[.int .i64 3,.int .i64 r,.bool d,.string b,.int .i64 i,.slice s t u],.int .i64 deep] w _;have B:=(eE.1 v).1;have O:¬b.toList=[46,46,46]:=by simpa using N
 have f:Hid (∀W,Below w.heap.size w W->W.heap[tb]? =some (.cells #[.slice q n p,rv] 445 (0,0))):=λW P=>(P.block _ B).trans v
 have Q:=hZ j;clear j;go_enter func391,ntmps391
 go_wp2_with (first|(go_at_call 296;refine(qa8 r d b i s t u _).mono ?_;rintro e w3 ⟨rfl,k⟩;have x:Hid (Below w.heap.size w w3):=(qaa _ _).trans (k.mono (by simp));have l:Hid (w3.heap[w.heap.size]? =some (.cells #[.int .i64 3,.int .i64 r,.bool d,.string b,.int .i64 i,.slice s t u] 134 (0,0))):=(k.block _ (by simp)).trans (eN _ _);clear k;refine Hid.out ?_))
 have h:Hid (Below w.heap.size w (w3.alloc (.cells #[.string b,.int .i64 i] 382))):=x.out.alloc x.out.size _;have c0:(w3.alloc (.cells #[.string b,.int .i64 i] 382)).cell? ⟨tb,0,none⟩=some (.slice q n p):=by simp only[World.cell?,f.out _ h.out];rfl
 refine hZ ?_;unfold idV;go_wp2_with (first|(go_at_call 290;refine(qak _).mono ?_;rintro e w4 ⟨rfl,C⟩;obtain rfl:=C.symm)|(go_at_call 406;refine(Q.out _ w3.heap.size h.out (eN _ _)).mono ?_;rintro e w4 ⟨rfl,m⟩;have c:Hid (Below w.heap.size w w4):=h.out.trans (m.mono h.out.size);have R:Hid (w4.heap[w.heap.size]? =some (.cells #[.int .i64 3,.int .i64 r,.bool d,.string b,.int .i64 i,.slice s t u] 134 (0,0))):=(m.block _ (by have:=(eE.1 l.out).1;simp;omega)).trans ((eH _ _ _ (eE.1 l.out).1).trans l.out);clear m;refine Hid.out ?_))
 have S:=c.out.size;obtain⟨g,rfl,G⟩:=A _ c.out;have H:(a:Int)<(n:Int):=by omega
 have I:(0:Int)<=(a:Int):=by omega
 have J:¬(a:Int)<0:=by omega
 have T:=qae G;have y:=(eE.1 (f.out _ c.out)).1;have U:(w4.alloc (.cells #[.int .i64 (a:Int)] 3)).cell? ⟨tb,0,none⟩=some (.slice (some ⟨g,0,none⟩) n p):=by simp only[World.cell?,eH _ _ _ y,f.out _ c.out];rfl
 have t1:(w4.alloc (.cells #[.int .i64 (a:Int)] 3)).cell? ⟨tb,1,none⟩=some rv:=by simp only[World.cell?,eH _ _ _ y,f.out _ c.out];rfl
 have X:(w4.alloc (.cells #[.int .i64 (a:Int)] 3)).cell? ⟨w4.heap.size,0,none⟩=some (.int .i64 (a:Int)):=by simp only[World.cell?,eN];rfl
 have D:=(qac T (.cells #[.int .i64 (a:Int)] 3)).trans G;refine hZ ?_;go_wp2_with (fail)
 generalize K:w4.alloc (.cells #[.int .i64 (a:Int)] 3)=V at U t1 X D|-;have E:Hid (Below w.heap.size w V):=by rw[<-K];exact c.out.alloc c.out.size _
 clear K;go_quiet (fail)
 go_wp2_with (go_at_call 290;refine(qav _).mono ?_;rintro e Y ⟨rfl,o,rfl⟩)
 refine⟨rfl,rfl,Below.alloc (w:=V.drewN nq) ?_ E.out.size _⟩;exact E.out.trans (qo6 (by exact⟨rfl,rfl,rfl,rfl⟩) E.out.size)
def q61(w:Wd)(tb lo n at':Nat)(rv:Vu)(xs:List Vu)(e:En)(w':Wd):Prop:=
 ∃b g cap W w3,e=.returned (.func (.func 409) #[] #[bp b])/\w.heap.size<=b/\Below w.heap.size w W/\W.heap[b]? =some (.cells #[.int .i64 (at':Int)] 3 (0,0))/\W.grownBy w3 rv.ownBlock/\w3.ownsRow lo 3 1 (.slice (some ⟨g,0,none⟩) (n+1) cap) (n+1) (xs++[.int .i64 (at':Int)])/\(rv.ownBlock=some g\/(w.heap.size<=g/\W.grownBy w3 none))/\g≠b/\Lk (w3.setCell ⟨tb,1,none⟩ (.slice (some ⟨g,0,none⟩) (n+1) cap)) w'
@[reducible] def SAt(b:Nat)(v:Vu)(w:Wd):Prop:=w.cell? ⟨b,0,none⟩=some v
theorem qqh(tb n J lo c p:Nat)(Y r:OA)(xs:List Vu)(Z:Int)(s:Bool)(f:BA)(E:Int)(xa:OA)(xl xc:Nat)(deep:Int)(w:Wd)(b:Nat)(dp:Int)(d4:0<dp)(b9:deep=dp)(F:w.ownsRow lo 3 1 (.slice r c p) c xs)(a1:tb<lo)(d5:lo<=w.heap.size)(d6:c<=1000000000000)(c1:∀W,Below w.heap.size w W->∃g,Y=some ⟨g,0,none⟩/\W.cell? ⟨g,b*3+2,none⟩=some (.int .i64 dp))(d7:b<n)(_:n<=1000000000000)(hd:(f.toList== [46,46,46])=false)(a2:w.heap[tb]? =some (.cells #[.slice Y n J,(.slice r c p)] 445 (0,0)))
  (G:∀W nb,Below w.heap.size w W->W.heap[nb]? =some (.cells #[.string f,.int .i64 E] 382 (0,0))->Calls prog 406 #[.slice Y n J,.func (.func 407) #[] #[bp nb]] W λe w2=>e=.returned (.int .i64 (b:Int))/\Below W.heap.size W w2):
  Calls prog 391 #[bp tb,.agg (Dl.cells ⟨3,Z,s,f,E,xa,xl,xc⟩),.int .i64 deep] w (q61 w tb lo c b (.slice r c p) xs):=by
 subst b9;have d8:(deep==deep)=true:=by simp
 obtain⟨i0,hi,a3,a4,a5⟩:=info_parts q41;show Calls prog 391 #[bp tb,.agg #[.int .i64 3,.int .i64 Z,.bool s,.string f,.int .i64 E,.slice xa xl xc],.int .i64 deep] w _;have c2:=(eE.1 a2).1;have d9:¬f.toList=[46,46,46]:=by simpa using hd
 have t:Hid (∀W,Below w.heap.size w W->W.heap[tb]? =some (.cells #[.slice Y n J,(.slice r c p)] 445 (0,0))):=λW hW=>(hW.block _ c2).trans a2
 have HC:=hZ G;clear G;go_enter func391,ntmps391
 go_wp2_with (first|(go_at_call 296;refine(qa8 Z s f E xa xl xc _).mono ?_;rintro e w3 ⟨rfl,K⟩;have a6:Hid (Below w.heap.size w w3):=(qaa _ _).trans (K.mono (by simp));have L:Hid (w3.heap[w.heap.size]? =some (.cells #[.int .i64 3,.int .i64 Z,.bool s,.string f,.int .i64 E,.slice xa xl xc] 134 (0,0))):=(K.block _ (by simp)).trans (eN _ _);clear K;refine Hid.out ?_))
 have z:Hid (Below w.heap.size w (w3.alloc (.cells #[.string f,.int .i64 E] 382))):=a6.out.alloc a6.out.size _;have c0:(w3.alloc (.cells #[.string f,.int .i64 E] 382)).cell? ⟨tb,0,none⟩=some (.slice Y n J):=by simp only[World.cell?,t.out _ z.out];rfl
 refine hZ ?_;unfold idV;go_wp2_with (first|(go_at_call 290;refine(qak _).mono ?_;rintro e w4 ⟨rfl,M⟩;obtain rfl:=M.symm)|(go_at_call 406;refine(HC.out _ w3.heap.size z.out (eN _ _)).mono ?_;rintro e w4 ⟨rfl,N⟩;have i:Hid (Below w.heap.size w w4):=z.out.trans (N.mono z.out.size);have e0:Hid (w4.heap[w.heap.size]? =some (.cells #[.int .i64 3,.int .i64 Z,.bool s,.string f,.int .i64 E,.slice xa xl xc] 134 (0,0))):=(N.block _ (by have:=(eE.1 L.out).1;simp;omega)).trans ((eH _ _ _ (eE.1 L.out).1).trans L.out);clear N;refine Hid.out ?_))
 have a7:=i.out.size;obtain⟨g,rfl,q2⟩:=c1 _ i.out;have d1:(b:Int)<(n:Int):=by omega
 have d2:(0:Int)<=(b:Int):=by omega
 have d3:¬(b:Int)<0:=by omega
 have lg:=qae q2;have O:=(eE.1 (t.out _ i.out)).1;have t0:(w4.alloc (.cells #[.int .i64 (b:Int)] 3)).cell? ⟨tb,0,none⟩=some (.slice (some ⟨g,0,none⟩) n J):=by simp only[World.cell?,eH _ _ _ O,t.out _ i.out];rfl
 have t1:(w4.alloc (.cells #[.int .i64 (b:Int)] 3)).cell? ⟨tb,1,none⟩=some (.slice r c p):=by simp only[World.cell?,eH _ _ _ O,t.out _ i.out];rfl
 have a0:(w4.alloc (.cells #[.int .i64 (b:Int)] 3)).cell? ⟨w4.heap.size,0,none⟩=some (.int .i64 (b:Int)):=by simp only[World.cell?,eN];rfl
 have a8:=(qac lg (.cells #[.int .i64 (b:Int)] 3)).trans q2;refine hZ ?_;go_wp2_with (fail)
 generalize hV:w4.alloc (.cells #[.int .i64 (b:Int)] 3)=V at t0 t1 a0 a8|-;have T:Hid (Below w.heap.size w V/\V.heap[w4.heap.size]? =some (.cells #[.int .i64 (b:Int)] 3 (0,0))/\V.heap[tb]? =some (.cells #[.slice (some ⟨g,0,none⟩) n J,.slice r c p] 445 (0,0))/\V.heap.size=w4.heap.size+1):=by
  rw[<-hV];exact⟨i.out.alloc i.out.size _,eN _ _,(eH _ _ _ O).trans (t.out _ i.out),by simp⟩
 have k:=hZ F;clear hV F;go_quiet (fail)
 go_wp2_with (first|(go_at_call 290;refine(qak _).mono ?_;rintro e w5 ⟨rfl,M⟩;obtain rfl:=M.symm))
 obtain⟨U,X⟩:∃U,U=V.drewN nq:=⟨_,rfl⟩;have v:Below w.heap.size w U:=by rw[X];exact T.out.1.trans (qo6 (by exact⟨rfl,rfl,rfl,rfl⟩) T.out.1.size)
 have A:U.heap[w4.heap.size]? =some (.cells #[.int .i64 (b:Int)] 3 (0,0)):=by rw[X];exact T.out.2.1
 have B:U.heap[tb]? =some (.cells #[.slice (some ⟨g,0,none⟩) n J,.slice r c p] 445 (0,0)):=by rw[X];exact T.out.2.2.1
 have c3:U.heap.size=w4.heap.size+1:=by rw[X];exact T.out.2.2.2
 rw[<-X];clear X t0 t1 a0 q2 a8 T;have v1:U.cell? ⟨tb,1,none⟩=some (.slice r c p):=by simp only[World.cell?,B];rfl
 have a9:=(eE.1 B).1;have P:=(eE.1 A).1;have e1:=(qac a9 (.cells #[.int .i64 (b:Int)] 3)).trans v1;have C:SAt w4.heap.size (.int .i64 (b:Int)) U:=by show U.cell? _=_;simp only[World.cell?,A];rfl
 have b0:=hZ C;have b1:Hid (SAt w4.heap.size (.int .i64 (b:Int)) U.drew):=C;have c4:Hid (SAt w4.heap.size (.int .i64 (b:Int)) (U.alloc (.cells #[.int .i64 (b:Int)] 3)).drew):=(qac P (.cells #[.int .i64 (b:Int)] 3)).trans C;have Q:Hid ((U.alloc (.cells #[.int .i64 (b:Int)] 3)).drew.ownsRow lo 3 1 (.slice r c p) c xs):=qk6 ((qb7 k.out λq hq=>v.block _ (k.out.lt q hq).2).alloc _) ⟨rfl,rfl,rfl,rfl⟩;have R:Hid (∀j u,[Value.int .i64 (b:Int)][j]? =some u->(U.alloc (.cells #[.int .i64 (b:Int)] 3)).drew.cell? ((⟨U.heap.size,0,none⟩:Addr).add j)=some u):=World.news_of_block (cs:=#[.int .i64 (b:Int)]) (eN U (.cells #[.int .i64 (b:Int)] 3));have b2:Hid (∀u∈[Value.int .i64 (b:Int)],u.oneCell'=true):=by
  intro u hu;simp at hu;rcases hu with rfl;rfl
 have c5:Hid (c+1<=maxLen):=by
  have:c+1<=maxLen:=by unfold maxLen;omega
  exact this
 have c6:Hid ((c+1)*8<=140737488355328):=by
  have:(c+1)*8<=140737488355328:=by omega
  exact this
 have b3:Hid (lo<=(U.alloc (.cells #[.int .i64 (b:Int)] 3)).drew.heap.size):=by
  have:lo<=(U.heap.push (.cells #[.int .i64 (b:Int)] 3)).size:=by simp;omega
  exact this
 have D:Hid (∀(y d:Nat) (l:Wd),l.ownsRow lo 3 1 (.slice (some ⟨y,0,none⟩) (c+1) d) (c+1) (xs++[.int .i64 (b:Int)])->(U.alloc (.cells #[.int .i64 (b:Int)] 3)).drew.grownBy l (Value.slice r c p).ownBlock->((Value.slice r c p).ownBlock=some y\/(y=(U.alloc (.cells #[.int .i64 (b:Int)] 3)).drew.heap.size/\(U.alloc (.cells #[.int .i64 (b:Int)] 3)).drew.grownBy l none))->
   l.cell? ⟨tb,1,none⟩=some (.slice r c p)/\(∀o,l.frozen? ⟨tb,o,none⟩=false)/\SAt w4.heap.size (.int .i64 (b:Int)) l/\SAt w4.heap.size (.int .i64 (b:Int)) (l.setCell ⟨tb,1,none⟩ (.slice (some ⟨y,0,none⟩) (c+1) d))/\
   ∀w7,Lk (l.setCell ⟨tb,1,none⟩ (.slice (some ⟨y,0,none⟩) (c+1) d)) w7->q61 w tb lo c b (.slice r c p) xs (.returned (.func (.func 409) #[] #[bp w4.heap.size])) w7):=λy d l ho hg ha=>by
  have e2:(U.alloc (.cells #[.int .i64 (b:Int)] 3)).drew.heap.size=U.heap.size+1:=by show(U.heap.push _).size=_;simp
  have S:Below U.heap.size U (U.alloc (.cells #[.int .i64 (b:Int)] 3)).drew:=bl1 ⟨rfl,rfl,rfl,rfl⟩;have keep:∀q,q<U.heap.size->(q<lo\/w.heap.size<=q)->l.heap[q]? =U.heap[q]?:=λq hq hl=>by
   rw[hg.block q (by omega) (λe=>by have:=k.out.lt q e.symm;omega),S.block q hq]
  have b4:=(keep tb a9 (.inl a1)).trans B;have c7:=keep w4.heap.size P (.inr a7);have s6:SAt w4.heap.size (.int .i64 (b:Int)) l:=(World.cell?_of_block (a:=⟨w4.heap.size,0,none⟩) c7).trans b0.out;have hne:w4.heap.size≠tb:=by omega
  refine⟨by simp only[World.cell?,b4];rfl,λo=>by simp[World.frozen?,b4],s6,(qbk hne).trans s6,λw7 c8=>?_⟩;refine⟨w4.heap.size,y,d,(U.alloc (.cells #[.int .i64 (b:Int)] 3)).drew,l,rfl,a7,v.trans (S.mono (by have:=v.size;omega)),(S.block _ P).trans A,hg,ho,ha.imp (λh=>h) (λh=>⟨by have:=v.size;omega,h.2⟩),?_,c8⟩;rcases ha with h|h
  ·have:=(k.out.lt y h).2;omega
  ·have:=h.1;omega
 clear B A C v k c3;rw[show Op.load 22 (Operand.tmp 42)=ldH 22 (Operand.tmp 42)from rfl];go_region_held3 (λw'=>w'.cell? ⟨w4.heap.size,0,none⟩=some (.int .i64 (b:Int)))
  (first|(with_reducible exact c9.out)|(with_reducible exact c4.out)|(with_reducible exact b1.out)|(with_reducible exact b0.out)|(with_reducible exact d0.out))
  (first|(refine qfc rfl _ _ 22 rfl lo 3 i0 (.int .i64 0) 1 8 underlying22 hi a3 a4 a5 rfl (by decide) _ _ _ rfl Q.out ⟨U.heap.size,0,none⟩ 1 1 [.int .i64 (b:Int)] rfl rfl R.out b2.out (by decide) c5.out c6.out b3.out (U.alloc (.cells #[.int .i64 (b:Int)] 3)).drew.heap.size rfl ?_;intro y d l x m H b5;obtain⟨q1,qf,b6,b7,I⟩:=D.out y d l x m H;have c9:=hZ b6;have d0:=hZ b7;have b8:=hZ I;clear x m H b5 b6 b7 I))
 all_goals(
  go_wp2;go_ret;exact b8.out _ (by first|with_reducible exact qcs _|with_reducible exact qct _))
theorem qmj(tb:Nat)(d:Int)(a:Bool)(b:BA)(f:Int)(g:OA)(h i:Nat)(k:Int)(w:Wd)(Q:En->Wd->Prop)
  (hI:∀w',Below w.heap.size w w'->Calls prog 391 #[bp tb,.agg #[.int .i64 3,.int .i64 d,.bool a,.string b,.int .i64 f,.slice g h i],.int .i64 k] w' λe w2=>((∃p,e=.panicked p)/\Q e w2)\/(∃v,e=.returned v/\Q (.returned v) w2)):
  Calls prog 365 #[bp tb,.agg (Dl.cells ⟨3,d,a,b,f,g,h,i⟩),.int .i64 k] w Q:=by
 show Calls prog 365 #[bp tb,.agg #[.int .i64 3,.int .i64 d,.bool a,.string b,.int .i64 f,.slice g h i],.int .i64 k] w _;have j:=hZ hI;clear hI;go_enter func365,ntmps365
 go_wp2_with (go_at_call 391;refine(j.out _ (qaa _ _)).mono ?_;rintro e w4 (⟨⟨p,rfl⟩,c⟩|⟨v,rfl,c⟩);(exact⟨rfl,c⟩);have l:=hZ c;clear c)
 exact l.out
theorem qk3(tb:Nat)(j:Int)(a:Bool)(b:BA)(l:Int)(d:OA)(g h:Nat)(k:Int)(w:Wd)(Q:En->Wd->Prop)
  (hI:∀w',Below w.heap.size w w'->Calls prog 392 #[bp tb,.slice d g h,.int .i64 k] w' λe w2=>((∃p,e=.panicked p)/\Q e w2)\/(∃f i,e=.returned (.func (.func f) #[] i)/\∀w3,Lk (w2.alloc (.cells #[.func (.func f) #[] i] 404)) w3->Q (.returned (.func (.func 393) #[] #[bp w2.heap.size])) w3)):
  Calls prog 365 #[bp tb,.agg (Dl.cells ⟨4,j,a,b,l,d,g,h⟩),.int .i64 k] w Q:=by
 show Calls prog 365 #[bp tb,.agg #[.int .i64 4,.int .i64 j,.bool a,.string b,.int .i64 l,.slice d g h],.int .i64 k] w _;have m:=hZ hI;clear hI;go_enter func365,ntmps365
 go_wp2_with (go_at_call 392;refine(m.out _ (qaa _ _)).mono ?_;rintro e w4 (⟨⟨p,rfl⟩,c⟩|⟨f,i,rfl,c⟩);(exact⟨rfl,c⟩);have n:=hZ c;clear c)
 exact n.out _ ⟨rfl,rfl,rfl,rfl⟩
theorem qk4(tb:Nat)(a d:Int)(b:Bool)(c:BA)(f:Int)(g:OA)(h i:Nat)(k:Int)(w:Wd)(j:a≠3)(l:a≠4):
  Calls prog 365 #[bp tb,.agg (Dl.cells ⟨a,d,b,c,f,g,h,i⟩),.int .i64 k] w λe w'=>e=.returned (.func (.func 394) #[] #[bp w.heap.size])/\Lk (w.alloc (.cells (Dl.cells ⟨a,d,b,c,f,g,h,i⟩) 134)) w':=by
 show Calls prog 365 #[bp tb,.agg #[.int .i64 a,.int .i64 d,.bool b,.string c,.int .i64 f,.slice g h i],.int .i64 k] w _;have e3:(a==3)=false:=by simpa using j
 have e4:(a==4)=false:=by simpa using l
 go_enter func365,ntmps365
 go_wp2;go_ret;exact⟨rfl,rfl,rfl,rfl,rfl⟩
theorem qjq(t:BA)(m:Int)(bs:List Bk):ixB (t.data.toList,m) (bs.map idB)=qlg t m bs:=by
 unfold ixB qlg;rw[List.findIdx?_map];congr 1
 funext b
 rw[Bool.eq_iff_iff];simp[idB,idS]
theorem q5b:Eg 407:=qa0 func407 (by kernel_rfl) (by kernel_rfl)
theorem qtb(a b:List Nat):qfr (a++b)=qfr a++qfr b:=by simp[qfr]
theorem qor{q:Nat}(h:is[q]? =some i):(qfr is)[q]? =some (.int .i64 (i:Int)):=by simp[qfr,h]
theorem q0n{bs:List Bk}(p:Tst G w0 H w tb lo bs is Pn)(Q:Int)(m:Bool)(c:BA)(l:Int)(R:OA)(S T:Nat)(b1:DRep H (.sym c.data.toList l) ⟨3,Q,m,c,l,R,S,T⟩)(deep:Nat)(hb:is.length<=1000000000000):
  Calls prog 391 #[bp tb,.agg (Dl.cells ⟨3,Q,m,c,l,R,S,T⟩),.int .i64 (deep:Int)] w (q32 G w0 H w tb lo 1 bs is Pn (qcb (bs.map idB) deep (.sym c.data.toList l))):=by
 obtain⟨E,J,rv,U,h2,h3,h4,h5⟩:=p.box;have b2:=(eE.1 U).1;by_cases n:c.data.toList=qbv
 ·obtain rfl:c=⟨#[46,46,46]⟩:=qbd (by rw[n];rfl);refine Calls.mono (qqj tb Q m l R S T deep w) ?_;rintro e w' ⟨rfl,r⟩;exact .inl ⟨rfl,(p.k.below r).bel,by simp[qcb,qbv]⟩
 ·have hd:(c.toList== [46,46,46])=false:=by rw[qgt];simpa[qbv]using n
  have K:(c.data.toList==qbv)=false:=by simpa using n
  have O:∀W y,Below w.heap.size w W->W.heap[y]? =some (.cells #[.string c,.int .i64 l] 382 (0,0))->Calls prog 406 #[.slice E bs.length J,.func (.func 407) #[] #[bp y]] W (IxP W bs c l):=λW y V F=>by
   refine qos bs E J 407 y c l W q5b (h2.row (p.k.below V)) p.bm λb w2 b3=>?_
   have a2:w2.heap[y]? =some (.cells #[.string c,.int .i64 l] 382 (0,0)):=by rw[b3.block _ (eE.1 F).1];exact F
   exact qzu b.1.1 b.1.2 b.2 y c l w2 (by simp only[World.cell?,a2];rfl) (by simp only[World.cell?,a2];rfl)
  cases hx:qlg c l bs with
  |none=>
   have X:qcb (bs.map idB) deep (.sym c.data.toList l)=some (⟨λ_=>True,λmark _=>some [.sym c.data.toList mark]⟩,[]):=by simp[qcb,K,qjq,hx]
   rw[X];refine Calls.mono (qqi tb bs.length J E rv Q m c l R S T deep w hd U (λW y V F=>Calls.mono (O W y V F) λe w2 ⟨L,q2⟩=>⟨by rw[L,hx],q2⟩)) ?_;rintro e w' ⟨rfl,Y,B⟩;obtain⟨p',z⟩:=p.fix B (eR _) Y;refine .inr ⟨_,_,[],Pn,_,rfl,⟨_,_,rfl⟩,rfl,by simp,by simpa using p',z _,λ_ h=>h,λGf A _=>?_⟩;exact q2q Gf c.data.toList l _ w.heap.size 134 (b1.mono ((z (λ_=>False)).ext.le.trans A)) (A.I (Gh.add_at _ _ _))
  |some f=>
   have x:f<bs.length:=by
    have:=List.findIdx?_eq_some_iff_getElem.1 hx;exact this.1
   obtain⟨⟨⟨bt,bm⟩,dp⟩,a3⟩:∃b,bs[f]? =some b:=⟨_,eG x⟩;have F:((bs.map idB)[f]?.map (·.2)).getD 0=dp:=by simp[a3,idB]
   have s:∀W y,Below w.heap.size w W->W.heap[y]? =some (.cells #[.string c,.int .i64 l] 382 (0,0))->Calls prog 406 #[.slice E bs.length J,.func (.func 407) #[] #[bp y]] W λe w2=>e=.returned (.int .i64 (f:Int))/\Below W.heap.size W w2:=λW y V F=>Calls.mono (O W y V F) λe w2 ⟨L,q2⟩=>⟨by rw[L,hx],q2⟩
   have t:∀W,Below w.heap.size w W->∃g,E=some ⟨g,0,none⟩/\W.cell? ⟨g,f*3+2,none⟩=some (.int .i64 (dp:Int)):=λW V=>by
    obtain⟨g,L,_,_,q4⟩:=h2.row (p.k.below V) f _ a3;exact⟨g,L,q4⟩
   by_cases h0:dp=0
   ·have X:qcb (bs.map idB) deep (.sym c.data.toList l)=some (⟨λtrs=>∃d,trs[f]? =some (.one d),λ_ trs=>qg6 f trs⟩,[]):=by
     simp only[qcb,K,qjq,hx,F,h0,Bool.false_eq_true,if_false,beq_self_eq_true,if_true]
    rw[X];refine Calls.mono (qqg tb bs.length J E rv Q m c l R S T deep w f (dp:Int) (by omega) t x p.bm hd U s) ?_;rintro e w' ⟨b,rfl,r,Y,B⟩;obtain⟨p',z⟩:=p.fix B r Y;refine .inr ⟨_,_,[],Pn,_,rfl,⟨_,_,rfl⟩,rfl,by simp,by simpa using p',z _,λ_ h=>h,λGf A _=>?_⟩;exact qs4 Gf f b 3 (A.I (Gh.add_at _ _ _))
   ·have a4:(dp==0)=false:=by simpa using h0
    by_cases a5:dp=deep
    ·have X:qcb (bs.map idB) deep (.sym c.data.toList l)=some (⟨λtrs=>∃d,trs[f]? =some (.one d),λ_ trs=>qg6 f trs⟩,[f]):=by
      simp only[qcb,K,qjq,hx,F,a4,Bool.false_eq_true,if_false];rw[if_pos (by simpa using a5)]
     rw[X];obtain⟨M,rc,rfl⟩:∃M rc,rv=.slice M is.length rc:=by
      rcases h3.2 with⟨L,q2⟩|⟨g,cap,N,L,_⟩
      ·exact⟨none,0,by rw[q2];exact L⟩
      ·exact⟨_,_,L⟩
     refine Calls.mono (qqh tb bs.length J lo is.length rc E M (qfr is) Q m c l R S T deep w f (dp:Int) (by omega) (by omega) h3 p.tlo p.lo hb t x p.bm hd U s) ?_;rintro e w' ⟨b,g,cap,W,w3,rfl,r,u,a6,hg,ho,ha,b4,Z⟩;have c1:=p.tlo;have b5:=p.lo;have a7:b<W.heap.size:=(eE.1 a6).1;have s1:Sp (λq=>q=tb\/(Value.slice M is.length rc).ownBlock=some q) H w H w3:=(Sp.below u).trans (Sp.grown hg λb hb=>.inr hb);have s2:Sp (λq=>q=tb\/(Value.slice M is.length rc).ownBlock=some q) H w H w':=(s1.trans (Sp.set (a:=⟨tb,1,none⟩) (.inl rfl))).trans (Sp.lk Z);have hL:∀q,(q=tb\/(Value.slice M is.length rc).ownBlock=some q)->w0.heap.size<=q/\H.I q=none:=by
      rintro q (rfl|hq)
      ·exact⟨p.tl,p.tI⟩
      ·exact⟨by have:=(h3.lt q hq).1;have:=p.tl;omega,h4 q hq⟩
     have C:∀q,q≠tb->w'.heap[q]? =w3.heap[q]?:=λq hq=>by rw[Z.heap,qab (a:=⟨tb,1,none⟩) _ hq]
     have b6:w'.heap[b]? =some (.cells #[.int .i64 (f:Int)] 3 (0,0)):=by
      rw[C b (by omega),hg.block b a7 (λe=>by have:=(h3.lt b e.symm).2;omega)];exact a6
     have a8:w3.heap[tb]? =some (.cells #[.slice E bs.length J,.slice M is.length rc] 445 (0,0)):=by
      rw[hg.block tb (by have:=u.size;omega) (λe=>by have:=(h3.lt tb e.symm).1;omega),u.block _ b2];exact U
     have a0:=p.k.fresh r;have k2:=(p.k.go s2 hL).fix (eT p.k.bel.size r) a0 b6;have z:=Gh.le_add (o:=.cells #[.int .i64 (f:Int)] 3 (0,0)) a0;have c2:=(ho.lt g rfl).1;have b7:H.I g=none:=by
      rcases ha with h|h
      ·exact h4 _ h
      ·exact p.k.fresh h.1
     have P:w'.ownsRow lo 3 1 (.slice (some ⟨g,0,none⟩) (is.length+1) cap) (is.length+1) (qfr is++[.int .i64 (f:Int)]):=qb7 ho λq hq=>by
      obtain rfl:g=q:=by simpa[Value.ownBlock]using hq
      exact C g (by omega)
     have a1:∀q,q≠b->(H.add b (.cells #[.int .i64 (f:Int)] 3 (0,0))).I q=H.I q:=λq hq=>if_neg hq
     refine .inr ⟨_,_,[f],Pn,_,rfl,⟨_,_,rfl⟩,rfl,by simp,⟨k2,⟨E,J,.slice (some ⟨g,0,none⟩) (is.length+1) cap,?_,h2.mono z,?_,λq hq=>?_,λq hq=>?_⟩,(a1 tb (by omega)).trans p.tI,p.tl,p.tlo,eT b5 s2.size,p.bm⟩,(s2.fix r a0).mono (λq _ hq=>?_),λ_ h=>h,λGf A _=>?_⟩
     ·rw[Z.heap];simp[World.setCell,Array.getElem?_modify,a8]
     ·rw[qtb];simpa[qfr]using P
     ·obtain rfl:g=q:=by simpa[Value.ownBlock]using hq
      exact(a1 _ b4).trans b7
     ·obtain⟨r1,r2,⟨b8,r3,r4⟩,r5⟩:=h5 q hq;have a9:=(eE.1 r3).1;refine⟨(a1 _ (by omega)).trans r1,r2,?_,λb9 j i hj=>?_⟩
      ·by_cases D:g=q.g
       ·rcases P.2 with⟨z1,_⟩|⟨g',b0,N,z1,z2,z3,z4,z5,z6,z7⟩
        ·cases z1
        ·cases z1;have v:(Value.slice M is.length rc).ownBlock=some q.g:=by
          rcases ha with h|h
          ·rw[<-D];exact h
          ·omega
         refine⟨N,by rw[<-D];exact z3,λj i hj=>?_⟩;have hi:=r5 v j i hj;have c3:=(eL.1 hi).1;have e1:(N.toList.take ((is.length+1)*1))[q.o+j]? =(qfr is++[Value.int .i64 (f:Int)])[q.o+j]?:=by rw[z7]
         rw[List.getElem?_take_of_lt (by omega),eA (by simp[qfr];omega),qor hi]at e1;simpa using e1
       ·refine⟨b8,?_,r4⟩;have c0:q.g≠tb:=by omega
        rw[C _ c0];rcases ha with h|h
        ·rw[hg.block q.g (by have:=u.size;omega) (λe=>D (by rw[<-e]at h;exact(Option.some.inj h).symm)),u.block _ a9];exact r3
        ·rw[h.2.block q.g (by have:=u.size;omega) nofun,u.block _ a9];exact r3
      ·have D:g=q.g:=by simpa[Value.ownBlock]using b9
       have v:(Value.slice M is.length rc).ownBlock=some q.g:=by
        rcases ha with h|h
        ·rw[<-D];exact h
        ·omega
       have hi:=r5 v j i hj;rw[eA (eL.1 hi).1];exact hi
     ·rcases hq with rfl|hq
      ·exact⟨_,_,U,.inr rfl⟩
      ·rcases h3.2 with⟨z1,_⟩|⟨g',b0,N,z1,z2,z3,_⟩
       ·rw[z1]at hq;cases hq
       ·rw[z1]at hq;obtain rfl:g'=q:=by simpa[Value.ownBlock]using hq
        exact⟨_,_,z3,.inl rfl⟩
     ·exact qs4 Gf f b 3 (A.I (Gh.add_at _ _ _))
    ·have X:qcb (bs.map idB) deep (.sym c.data.toList l)=none:=by
      simp only[qcb,K,qjq,hx,F,a4,Bool.false_eq_true,if_false];rw[if_neg (by simpa using a5)]
     rw[X];refine Calls.mono (qte tb bs.length J E rv Q m c l R S T deep w f (dp:Int) (by omega) (by omega) t x p.bm hd U s) ?_;rintro e w' ⟨rfl,B⟩;exact .inl ⟨rfl,(p.k.below B).bel,rfl⟩
theorem qrq(g n m c:Nat)(h:n<=m)(a:m<=c)(w:Wd):(Instr.slice 22 (.slice (some ⟨g,0,none⟩) m c) (some (.int .i64 (n:Int))) none none).run prog w=.ok (.slice (if c=n then some ⟨g,0,none⟩else some ⟨g,n,none⟩) (m-n) (c-n)) w:=by
 have b:n<=c:=by omega
 simp[Instr.slice,Instr.sliceBounds,run_underlying underlying22,go_sem,h]
theorem ql9(w:Wd):(Instr.slice 22 (.slice none 0 0) (some (.int .i64 0)) none none).run prog w=.ok (.slice none 0 0) w:=by
 simp[Instr.slice,Instr.sliceBounds,run_underlying underlying22,go_sem]
theorem q1z(tb n C:Nat)(D:OA)(G:Vu)(j l:Int)(b:Bool)(c:BA)(q:Int)(r:OA)(s t:Nat)(k:Int)(w:Wd)(Q:En->Wd->Prop)(g:w.heap[tb]? =some (.cells #[G,.slice D n C] 445 (0,0)))
  (hI:∀w',Below w.heap.size w w'->Calls prog 365 #[bp tb,.agg #[.int .i64 j,.int .i64 l,.bool b,.string c,.int .i64 q,.slice r s t],.int .i64 k] w' λe w2=>((∃p,e=.panicked p)/\Q e w2)\/(∃f u v m c2 x m3 c3,e=.returned (.func (.func f) #[] u)/\(∃E,w2.heap[tb]? =some (.cells #[E,.slice v m c2] 445 (0,0)))/\(∀w,(Instr.slice 22 (.slice v m c2) (some (.int .i64 (n:Int))) none none).run prog w=.ok (.slice x m3 c3) w)/\
   ((m3=0/\∀w3,Below w2.heap.size w2 w3->Q (.panicked (qan (qap 4))) w3)\/(0<m3/\∀w3,Lk ((w2.alloc (.cells #[.func (.func f) #[] u] 404)).alloc (.cells #[.slice x m3 c3] 22)) w3->Q (.returned (.func (.func 420) #[] #[bp (w2.heap.size+1),bp w2.heap.size])) w3)))):
  Calls prog 411 #[bp tb,.agg (Dl.cells ⟨j,l,b,c,q,r,s,t⟩),.int .i64 k] w Q:=by
 show Calls prog 411 #[bp tb,.agg #[.int .i64 j,.int .i64 l,.bool b,.string c,.int .i64 q,.slice r s t],.int .i64 k] w _;have y:=(eE.1 g).1;have c1:(w.alloc (.cells #[.int .i64 j,.int .i64 l,.bool b,.string c,.int .i64 q,.slice r s t] 134)).cell? ⟨tb,1,none⟩=some (.slice D n C):=by
  simp only[World.cell?,eH _ _ _ y,g];rfl
 have H:=hZ hI;clear hI;go_enter func411,ntmps411
 go_wp2_with (go_at_call 365;refine(H.out _ (qaa _ _)).mono ?_;rintro e w4 (⟨⟨p,rfl⟩,a⟩|⟨f,u,v,m,c2,x,m3,c3,rfl,⟨E,h⟩,I,a⟩);(exact⟨rfl,a⟩);have z:=hZ a;have i:=hZ h;clear a h;refine Hid.out ?_)
 have A:=(eE.1 i.out).1;have L:(w4.alloc (.cells #[.func (.func f) #[] u] 404)).cell? ⟨tb,1,none⟩=some (.slice v m c2):=by simp only[World.cell?,eH _ _ _ A,i.out];rfl
 rcases z.out with⟨F,a⟩|⟨F,a⟩
 ·subst F;have d:=hZ a;clear z a;refine hZ ?_;go_wp2_with (go_at_call 290;refine(qav _).mono ?_;rintro e J ⟨rfl,o,rfl⟩)
  exact⟨rfl,d.out _ (((qaa _ _).alloc (by simp) _).alloc (by simp;omega) _)⟩
 ·have d:=hZ a;have K:(0:Int)<(m3:Int):=by omega
  clear z a;refine hZ ?_;go_wp2_with (first|(go_at_call 290;refine(qak _).mono ?_;rintro e J ⟨rfl,B⟩;obtain rfl:=B.symm))
  exact d.out _ ⟨rfl,rfl,rfl,rfl⟩
def qb9(L:List Mkr)(js:List Nat):Option (List Mkr×List Nat)->Option (List Mkr×List Nat)
 |none=>none
 |some (M,ks)=>some (L++M,js++ks)
theorem qnk(r:Option (List Mkr×List Nat)):qb9 [] [] r=r:=by cases r <;> simp[qb9]
theorem qnl(L M:List Mkr)(js ks:List Nat)(r:Option (List Mkr×List Nat)):qb9 L js (qb9 M ks r)=qb9 (L++M) (js++ks) r:=by cases r <;> simp[qb9]
def qzh:Option (Mkr×List Nat)->Option (Mkr×List Nat)
 |none=>none
 |some (m,js)=>if js.isEmpty then none else some (rep js m,js)
def qe8(r:Option (Mkr×List Nat))(s:Option (List Mkr×List Nat)):Option (List Mkr×List Nat):=match r with
 |none=>none
 |some (m,js)=>qb9 [m] js s
theorem qq0(bl:List (Sc.Id×Nat))(deep:Nat)(t q:Dt)(r:List Dt)(a:qam q=true):qbj bl deep (t::q::r)=qe8 (qzh (qcb bl (deep+1) t)) (qbj bl deep r):=by
 simp only[qbj,a,if_true];cases qcb bl (deep+1) t with
 |none=>rfl
 |some p=>
  obtain⟨m,js⟩:=p;simp only[qzh];cases js.isEmpty with
  |true=>rfl
  |false=>simp only[Bool.false_eq_true,if_false];cases qbj bl deep r <;> rfl
theorem qq1(bl:List (Sc.Id×Nat))(deep:Nat)(t:Dt)(r:List Dt)(b:∀q a,r=q::a->qam q=false):qbj bl deep (t::r)=qe8 (qcb bl deep t) (qbj bl deep r):=by
 cases r with
 |nil=>
  simp only[qbj];cases qcb bl deep t with
  |none=>rfl
  |some p=>obtain⟨m,js⟩:=p;simp[qe8,qb9]
 |cons q a=>
  simp only[qbj,b q a rfl,Bool.false_eq_true,if_false];cases qcb bl deep t with
  |none=>rfl
  |some p=>
   obtain⟨m,js⟩:=p;simp only[qe8];cases qbj bl deep (q::a) <;> rfl
theorem PnOk.sub{a:Gh}{A B:List Pd}(h:PnOk a B)(b:∀p,p∈A->p∈B):PnOk a A:=λp c=>h p (b p c)
theorem MkRow.snoc{L:List Mkr}{m:Mkr}{v:Vu}(r:MkRow G L vs)(h:Mks G m.ok m.mks v):MkRow G (L++[m]) (vs++[v]):=by
 refine⟨by simp[r.len],λi x y a b=>?_⟩;rcases Nat.lt_or_ge i L.length with hi|hi
 ·rw[eA hi]at a;rw[eA (by rw[r.len];exact hi)]at b;exact r.at' i x y a b
 ·rw[eB hi]at a;rw[eB (by rw[r.len];exact hi),r.len]at b;cases hk:i-L.length with
  |zero=>
   rw[hk]at a b;simp at a b;subst a;subst b;exact h
  |succ n=>rw[hk]at a;simp at a
structure MkB (H:Gh) (w:Wd) (mb:Nat) (mv:Vu) (vs:List Vu):Prop where
 box:w.heap[mb]? =some (.cells #[mv] 483 (0,0))
 I:H.I mb=none
 own:w.ownsRow (mb+1) 404 1 mv vs.length vs
 loose:∀g,mv.ownBlock=some g->H.I g=none
theorem MkB.step{i:Gh}{w':Wd}{mv:Vu}(b:MkB H w mb mv vs)(s:SpT H w i w'):MkB i w' mb mv vs:=by
 have c:∀g,mv.ownBlock=some g->w'.heap[g]? =w.heap[g]?:=λg a=>by
  rcases b.own.2 with⟨e,_⟩|⟨k,cap,l,e,m,j,_⟩
  ·rw[e]at a;cases a
  ·rw[e]at a;obtain rfl:k=g:=by simpa[Value.ownBlock]using a
   refine s.blk (eE.1 j).1 λ⟨cs,t,d,f⟩=>?_
   rw[j]at d;cases d;exact absurd f (by decide)
 have h:w'.heap[mb]? =w.heap[mb]?:=s.blk (eE.1 b.box).1 λ⟨cs,t,d,f⟩=>by
  rw[b.box]at d;cases d;exact absurd f (by decide)
 exact⟨h.trans b.box,s.loose (eE.1 b.box).1 b.I,qb7 b.own c,λg a=>s.loose (b.own.lt g a).2 (b.loose g a)⟩
theorem MkB.push{W w4 w5:Wd}{cap:Nat}{mv v:Vu}{bs:List Bk}(p:Tst G w0 H w tb lo bs is Pn)(b:MkB H w mb mv vs)(i:w0.heap.size<=mb)(d:Below w.heap.size w W)(s:W.grownBy w4 mv.ownBlock)(u:w4.ownsRow (mb+1) 404 1 (.slice (some ⟨g,0,none⟩) (vs.length+1) cap) (vs.length+1) (vs++[v]))(z:mv.ownBlock=some g\/g=W.heap.size)
  (j:Lk (w4.setCell ⟨mb,0,none⟩ (.slice (some ⟨g,0,none⟩) (vs.length+1) cap)) w5):Tst G w0 H w5 tb lo bs is Pn/\MkB H w5 mb (.slice (some ⟨g,0,none⟩) (vs.length+1) cap) (vs++[v])/\Sp (λk=>k=mb\/mv.ownBlock=some k) H w H w5:=by
 have l:=(eE.1 b.box).1;have s1:Sp (λk=>k=mb\/mv.ownBlock=some k) H w H w4:=(Sp.below d).trans (Sp.grown s λq c=>.inr c);have m:Sp (λk=>k=mb\/mv.ownBlock=some k) H w H w5:=(s1.trans (Sp.set (a:=⟨mb,0,none⟩) (.inl rfl))).trans (Sp.lk j);have A:∀k,(k=mb\/mv.ownBlock=some k)->w0.heap.size<=k/\H.I k=none:=by
  rintro k (rfl|hk)
  ·exact⟨i,b.I⟩
  ·exact⟨by have:=(b.own.lt k hk).1;omega,b.loose k hk⟩
 have n:∀k,(k=mb\/mv.ownBlock=some k)->¬IxT w k:=by
  rintro k (rfl|hk) ⟨cs,t,f,x⟩
  ·rw[b.box]at f;cases f;exact absurd x (by decide)
  ·rcases b.own.2 with⟨o,_⟩|⟨B,y,C,o,F,D,_⟩
   ·rw[o]at hk;cases hk
   ·rw[o]at hk;obtain rfl:B=k:=by simpa[Value.ownBlock]using hk
    rw[D]at f;cases f;exact absurd x (by decide)
 have E:=(u.lt g rfl).1;have r:w4.heap[mb]? =some (.cells #[mv] 483 (0,0)):=by
  rw[s.block mb (by have:=d.size;omega) (λe=>by have:=(b.own.lt mb e.symm).1;omega),d.block _ l];exact b.box
 refine⟨p.step' m n (p.k.go m A),⟨?_,b.I,?_,λq c=>?_⟩,m⟩
 ·rw[j.heap];simp[World.setCell,Array.getElem?_modify,r]
 ·rw[List.length_append];exact qb7 u λq c=>by
   obtain rfl:g=q:=by simpa[Value.ownBlock]using c
   rw[j.heap,qab (a:=⟨mb,0,none⟩) _ (by show g≠mb;omega)]
 ·obtain rfl:g=q:=by simpa[Value.ownBlock]using c
  rcases z with h|h
  ·exact b.loose _ h
  ·exact p.k.fresh (by have:=d.size;omega)
def qq6(d:Dt):Prop:=∀(G:Gh) (w0:Wd) (H:Gh) (w:Wd) (tb lo:Nat) (bs:List Bk) (is:List Nat) (Pn:List Pd) (e:Dl) (deep:Nat),Tst G w0 H w tb lo bs is Pn->DRep H d e->deep+qaf d<=1000000000000->is.length+(1+qaf d)<=1000000000000->
 Calls prog 365 #[bp tb,.agg e.cells,.int .i64 (deep:Int)] w (q32 G w0 H w tb lo (1+qaf d) bs is Pn (qcb (bs.map idB) deep d))
def q62(d:Dt):Prop:=∀(G:Gh) (w0:Wd) (H:Gh) (w:Wd) (tb lo:Nat) (bs:List Bk) (is:List Nat) (Pn:List Pd) (e:Dl) (deep:Nat),Tst G w0 H w tb lo bs is Pn->DRep H d e->deep+1+qaf d<=1000000000000->is.length+(1+qaf d)<=1000000000000->
 Calls prog 411 #[bp tb,.agg e.cells,.int .i64 ((deep:Int)+1)] w (q32 G w0 H w tb lo (1+qaf d) bs is Pn (qzh (qcb (bs.map idB) (deep+1) d)))
theorem q4a(d:Dt)(ih:qq6 d):q62 d:=by
 intro G w0 H w tb lo bs is Pn e deep t hd hk hb;obtain⟨xk,xn,C,D,xm,xa,xl,xc⟩:=e;obtain⟨ba,bc,rv,h1,h2,h3,h4,h5⟩:=t.box;obtain⟨Q,rc,rfl⟩:∃Q rc,rv=.slice Q is.length rc:=by
  rcases h3.2 with⟨s,u⟩|⟨g,cap,h,s,_⟩
  ·exact⟨none,0,by rw[u];exact s⟩
  ·exact⟨_,_,s⟩
 refine q1z tb is.length rc Q _ xk xn C D xm xa xl xc _ w _ h1 λw' hw=>?_
 have j:=ih G w0 H w' tb lo bs is Pn ⟨xk,xn,C,D,xm,xa,xl,xc⟩ (deep+1) (t.below hw) hd hk hb;have ek:(((deep+1:Nat):Int))=(deep:Int)+1:=by push_cast;rfl
 rw[ek]at j;refine Calls.mono j ?_;rintro e w2 (⟨rfl,s,u⟩|⟨E,v,new,R,m,rfl,⟨f,n,rfl⟩,u,q3,S,s2,hP,hm⟩)
 ·exact .inl ⟨⟨_,rfl⟩,.inl ⟨rfl,s,by rw[u];rfl⟩⟩
 ·obtain⟨b1,b2,T,O,r2,U,r4,r5⟩:=S.box;have sw:SpT H w E w2:=SpT.trans (SpT.below hw) s2;by_cases a:new=[]
  ·subst a;have l:qzh (qcb (bs.map idB) (deep+1) d)=none:=by rw[u];rfl
   have V:∃r m c W m3 c3,T=.slice r m c/\(∀w,(Instr.slice 22 (.slice r m c) (some (.int .i64 (is.length:Int))) none none).run prog w=.ok (.slice W m3 c3) w)/\m3=0:=by
    simp only[List.append_nil]at U;rcases U.2 with⟨A,x⟩|⟨g,cap,h,A,x,X,P,_⟩
    ·refine⟨none,0,0,none,0,0,A,?_,rfl⟩;rw[x];exact ql9
    ·exact⟨_,_,_,_,_,_,A,qrq g is.length is.length cap (eR _) P,by simp⟩
   obtain⟨r,mm,c,W,m3,c3,rfl,Y,Z⟩:=V;exact .inr ⟨f,n,r,mm,c,W,m3,c3,rfl,⟨_,O⟩,Y,.inl ⟨Z,λw3 o=>.inl ⟨rfl,(S.k.below o).bel,l⟩⟩⟩
  ·have hne:new.isEmpty=false:=by cases new with|nil=>exact absurd rfl a|cons _ _=>rfl
   have F:0<new.length:=by cases new with|nil=>exact absurd rfl a|cons _ _=>simp
   have l:qzh (qcb (bs.map idB) (deep+1) d)=some (rep new m,new):=by rw[u];simp[qzh,hne]
   rcases U.2 with⟨A,x⟩|⟨g,cap,h,A,x,X,P,z5,z6,z7⟩
   ·simp at x;exact absurd x.2 a
   ·subst A;have a0:¬cap=is.length:=by simp at P;omega
    refine .inr ⟨f,n,some ⟨g,0,none⟩,_,cap,some ⟨g,is.length,none⟩,new.length,cap-is.length,rfl,⟨_,O⟩,λw=>?_,.inr ⟨F,λw3 o=>?_⟩⟩
    ·have:=qrq g is.length (is++new).length cap (by simp) P w;rw[if_neg a0]at this;simpa using this
    ·have hA:Below w2.heap.size w2 (w2.alloc (.cells #[.func (.func f) #[] n] 404)):=qaa _ _;obtain⟨t3,s3⟩:=S.fix hA (eR _) (eN _ _);have hB:Below (w2.alloc (.cells #[.func (.func f) #[] n] 404)).heap.size (w2.alloc (.cells #[.func (.func f) #[] n] 404)) w3:=bl1 o;have a1:w3.heap[w2.heap.size+1]? =some (.cells #[.slice (some ⟨g,is.length,none⟩) new.length (cap-is.length)] 22 (0,0)):=by
      rw[o.heap];have:=eN (w2.alloc (.cells #[.func (.func f) #[] n] 404)) (.cells #[.slice (some ⟨g,is.length,none⟩) new.length (cap-is.length)] 22);simpa using this
     obtain⟨y,s4⟩:=t3.fix (b:=w2.heap.size+1) hB (by simp) a1;have a2:E.le _:=((s3 (λ_=>False)).ext.le).trans ((s4 (λ_=>False)).ext.le);have a3:=(s4 (λ_=>False)).ext.le.I (Gh.add_at E w2.heap.size (.cells #[.func (.func f) #[] n] 404 (0,0)));have a4:=Gh.add_at (E.add w2.heap.size (.cells #[.func (.func f) #[] n] 404 (0,0))) (w2.heap.size+1) (.cells #[.slice (some ⟨g,is.length,none⟩) new.length (cap-is.length)] 22 (0,0));obtain⟨a5,a6,J,u1,u2,u3,u4,u5⟩:=y.box;have a7:=(eE.1 X).1;have a8:w3.heap[g]? =some (.cells h 3 (0,0)):=by
      rw[hB.block _ (by simp;omega),hA.block _ a7];exact X
     have K:w3.heap[tb]? =w2.heap[tb]?:=by
      have lt:=(eE.1 O).1;rw[hB.block _ (by simp;omega),hA.block _ lt]
     have a9:J=.slice (some ⟨g,0,none⟩) (is++new).length cap:=by
      rw[K,O]at u1;have:=Option.some.inj u1;injection this with s u q3
      have:=congrArg (·[1]?) s;simpa using this.symm
     have L:∀(q i:Nat),(is++new)[q]? =some i->h[q]? =some (.int .i64 (i:Int)):=λq i B=>by
      have b3:=(eL.1 B).1;have e1:(h.toList.take ((is++new).length*1))[q]? =(qfr (is++new))[q]?:=by rw[z7]
      rw[List.getElem?_take_of_lt (by omega),qor B]at e1;simpa using e1
     have t5:Tst G w0 ((E.add w2.heap.size (.cells #[.func (.func f) #[] n] 404 (0,0))).add (w2.heap.size+1) (.cells #[.slice (some ⟨g,is.length,none⟩) new.length (cap-is.length)] 22 (0,0))) w3 tb lo bs (is++new) (⟨g,is.length,new⟩::R):=by
      refine⟨y.k,⟨a5,a6,J,u1,u2,u3,u4,λp M=>?_⟩,y.tI,y.tl,y.tlo,y.lo,y.bm⟩;rcases List.mem_cons.1 M with e|e
      ·subst e;refine⟨u4 g (by rw[a9];rfl),x,⟨h,a8,λq i B=>?_⟩,λ_ q i B=>?_⟩
       ·exact L (is.length+q) i (by rw[eB (Nat.le_add_right _ _)];simpa using B)
       ·show(is++new)[is.length+q]? =some i;rw[eB (by omega)];simpa using B
      ·exact u5 p e
     refine .inr ⟨_,_,new,_,rep new m,rfl,⟨_,_,rfl⟩,l,q3,t5,SpT.trans sw (SpT.trans (s3 _) (s4 _)),λp M=>List.mem_cons_of_mem _ (hP p M),λGf z N=>?_⟩;obtain⟨b0,tt,o1,o2⟩:=N ⟨g,is.length,new⟩ (by simp);exact q4s Gf m _ new _ _ 22 404 g is.length (cap-is.length) tt b0 (hm Gf (a2.trans z) (N.sub λp M=>List.mem_cons_of_mem _ M)) (z.I a3) (z.I a4) o1 o2 F (by omega)
inductive TrD:Nat->Tr->Prop where
 |one (d:Dt):TrD 0 (.one d)
 |row (n:Nat) (l:List Tr) (h:∀t,t∈l->TrD n t):TrD (n+1) (.row l)
theorem qs7{i:Sc.Id}{bl:List (Sc.Id×Nat)}{a:Nat}(h:ixB i bl=some a):∃n,bl[a]? =some (i,n)/\qlu i bl=some n:=by
 unfold ixB at h;unfold qlu;induction bl generalizing a with
 |nil=>simp at h
 |cons b r c=>
  rw[List.findIdx?_cons]at h;rw[List.find?_cons];cases hb:(b.1==i)with
  |true=>
   rw[hb]at h;simp only[if_true,Option.some.injEq]at h;subst h;have:b.1=i:=by simpa using hb
   exact⟨b.2,by simp[<-this],by simp⟩
  |false=>
   rw[hb]at h;simp only[Bool.false_eq_true,if_false,Option.map_eq_some_iff]at h;obtain⟨k,d,rfl⟩:=h;obtain⟨n,e,f⟩:=c d;exact⟨n,by simpa using e,f⟩
theorem qx0{i:Sc.Id}{bl:List (Sc.Id×Nat)}(h:ixB i bl=none):qlu i bl=none/\∀b,b∈bl->b.1≠i:=by
 unfold ixB at h;rw[List.findIdx?_eq_none_iff]at h;refine⟨?_,λb a=>by have:=h b a;simpa using this⟩;unfold qlu;rw[List.find?_eq_none.2 λb a=>by have:=h b a;simpa using this];rfl
mutual
theorem qe7(bl:List (Sc.Id×Nat)):∀(deep:Nat) (d:Dt),qnb bl deep d=(qcb bl deep d).map λp=>!p.2.isEmpty
 |deep,.sym t m=>by
  simp only[qnb,qcb];cases ht:(t==qbv)with
  |true=>rfl
  |false=>
   simp only[Bool.false_eq_true,if_false];cases hx:ixB (t,m) bl with
   |none=>rw[(qx0 hx).1];rfl
   |some c=>
    obtain⟨n,e,f⟩:=qs7 hx;rw[f];simp only[e,Option.map_some,Option.getD_some];by_cases a:n=0
    ·simp[a]
    ·by_cases b:n=deep
     ·simp[b];split <;> simp_all
     ·simp[a,b]
 |deep,.list l=>by
  simp only[qnb,qcb,qfw bl deep l];cases qbj bl deep l <;> rfl
 |deep,.num _=>rfl
 |deep,.bool _=>rfl
 |deep,.str _=>rfl
theorem qfw(bl:List (Sc.Id×Nat)):∀(deep:Nat) (l:List Dt),qqq bl deep l=(qbj bl deep l).map λp=>!p.2.isEmpty
 |deep,[]=>rfl
 |deep,[t]=>by
  simp only[qqq,qbj,qe7 bl deep t];cases qcb bl deep t <;> rfl
 |deep,t::q::r=>by
  simp only[qqq,qbj];cases hq:qam q with
  |true=>
   simp only[if_true,qe7 bl (deep+1) t,qfw bl deep r];cases hc:qcb bl (deep+1) t with
   |none=>rfl
   |some p=>
    obtain⟨m,js⟩:=p;cases hj:js.isEmpty with
    |true=>simp[hj]
    |false=>
     simp only[Option.map_some,hj,Bool.not_false,Bool.false_eq_true,if_false];cases qbj bl deep r with
     |none=>rfl
     |some s=>
      cases js with
      |nil=>cases hj
      |cons a b=>simp
  |false=>
   simp only[Bool.false_eq_true,if_false,qe7 bl deep t,qfw bl deep (q::r)];cases qcb bl deep t with
   |none=>rfl
   |some p=>
    obtain⟨m,js⟩:=p;cases qbj bl deep (q::r)with
    |none=>rfl
    |some s=>
     obtain⟨L,ks⟩:=s;cases js <;> cases ks <;> simp
end
def bnd(bl:List (Sc.Id×Nat))(trs:List Tr):qdq:=List.zipWith (λb t=>(b.1,t)) bl trs
theorem qlx(bl:List (Sc.Id×Nat))(trs:List Tr)(i:Nat):(bnd bl trs)[i]? =match bl[i]?,trs[i]? with
  |some b,some t=>some (b.1,t)
  |_,_=>none:=by
 unfold bnd;rw[List.getElem?_zipWith];cases bl[i]? <;> cases trs[i]? <;> rfl
theorem qj4{i:Sc.Id}:∀{bl:List (Sc.Id×Nat)} {trs:List Tr},trs.length=bl.length->(bnd bl trs).find? (λx=>x.1==i)=match ixB i bl with
  |none=>none
  |some a=>(trs[a]?).map λt=>(i,t)
 | [],[],_=>rfl
 |b::bl,t::trs,h=>by
  have d:=qj4 (i:=i) (bl:=bl) (trs:=trs) (by simpa using h);simp only[bnd,List.zipWith_cons_cons,List.find?_cons,ixB,List.findIdx?_cons];cases hb:(b.1==i)with
  |true=>
   have:b.1=i:=by simpa using hb
   simp[this]
  |false=>
   simp only[Bool.false_eq_true,if_false];have c:(List.zipWith (λ(b:Sc.Id×Nat) (t:Tr)=>(b.1,t)) bl trs).find? (λx=>x.1==i)=match ixB i bl with
    |none=>none
    |some a=>(trs[a]?).map λt=>(i,t):=d
   rw[c];unfold ixB;cases bl.findIdx? (λb=>b.1==i)with
   |none=>rfl
   |some k=>simp
theorem qs6{bl:List (Sc.Id×Nat)}(c:(bl.map (·.1)).Nodup){id:Sc.Id}{n:Nat}(h:bl[i]? =some (id,n)):ixB id bl=some i:=by
 unfold ixB;rw[List.findIdx?_eq_some_iff_getElem];have a:=(eL.1 h).1;have b:=(eL.1 h).2;refine⟨a,by rw[b];simp,λj f=>?_⟩;have hne:¬bl[j].1=id:=λe=>by
  have d:(bl.map (·.1))[j]'(by simp;omega)=(bl.map (·.1))[i]'(by simpa using a):=by
   simp only[List.getElem_map];rw[e,b]
  have:=(List.getElem_inj c).1 d;omega
 simpa using hne
mutual
theorem qhu{bl:List (Sc.Id×Nat)}(s:(bl.map (·.1)).Nodup)(g:∀b,b∈bl->b.1.1≠qbv):∀(deep:Nat) (d:Dt) {m:Mkr} {js:List Nat},qcb bl deep d=some (m,js)->∀i:Nat,(i∈js↔∃id n,bl[i]? =some (id,n)/\0<n/\qa5 id d=true)/\(i∈js->∀id n,bl[i]? =some (id,n)->deep<=n)
 |deep,.sym t mm,m,js,h,i=>by
  simp only[qcb]at h;cases ht:(t==qbv)with
  |true=>rw[ht]at h;simp at h
  |false=>
   rw[ht]at h;simp only[Bool.false_eq_true,if_false]at h;have f:∀id:Sc.Id,qa5 id (.sym t mm)=true↔(t,mm)=id:=λid=>by simp[qa5]
   cases hx:ixB (t,mm) bl with
   |none=>
    rw[hx]at h;simp only[Option.some.injEq,Prod.mk.injEq]at h;obtain⟨_,rfl⟩:=h;refine⟨⟨λh=>by simp at h,λ⟨id,n,c,_,w⟩=>?_⟩,λh=>by simp at h⟩;have:=(f id).1 w;exact absurd this.symm ((qx0 hx).2 (id,n) (List.mem_of_getElem? c))
   |some at'=>
    rw[hx]at h;obtain⟨n,c,x⟩:=qs7 hx;simp only[c,Option.map_some,Option.getD_some]at h;have only:∀id k,bl[i]? =some (id,k)->qa5 id (.sym t mm)=true->i=at'/\k=n:=λid k a j=>by
     have e:=(f id).1 j;subst e;have:=qs6 s a;rw[hx]at this;have e2:i=at':=(Option.some.inj this).symm;subst e2;rw[c]at a;exact⟨rfl,by cases a;rfl⟩
    by_cases u:n=0
    ·simp only[u,beq_self_eq_true,if_true,Option.some.injEq,Prod.mk.injEq]at h;obtain⟨_,rfl⟩:=h;refine⟨⟨λh=>by simp at h,λ⟨id,k,a,j,o⟩=>?_⟩,λh=>by simp at h⟩;have:=(only id k a o).2;omega
    ·have r:(n==0)=false:=by simpa using u
     rw[r]at h;by_cases v:n=deep
     ·simp only[Bool.false_eq_true,if_false,v,beq_self_eq_true,if_true,Option.some.injEq,Prod.mk.injEq]at h;obtain⟨_,rfl⟩:=h;refine⟨⟨λh=>?_,λ⟨id,k,a,j,o⟩=>?_⟩,λh id k q=>?_⟩
      ·obtain rfl:i=at':=by simpa using h
       exact⟨(t,mm),n,c,by omega,by simp[qa5]⟩
      ·simp[(only id k a o).1]
      ·obtain rfl:i=at':=by simpa using h
       rw[c]at q;cases q;omega
     ·have:(n==deep)=false:=by simpa using v
      rw[this]at h;simp at h
 |deep,.list l,m,js,h,i=>by
  simp only[qcb]at h;cases hc:qbj bl deep l with
  |none=>rw[hc]at h;simp at h
  |some p=>
   obtain⟨L,ks⟩:=p;rw[hc]at h;simp only[Option.some.injEq,Prod.mk.injEq]at h;obtain⟨_,rfl⟩:=h;exact qj0 s g deep l hc i
 |deep,.num _,m,js,h,i=>by simp only[qcb,Option.some.injEq,Prod.mk.injEq]at h;obtain⟨_,rfl⟩:=h;simp[qa5]
 |deep,.bool _,m,js,h,i=>by simp only[qcb,Option.some.injEq,Prod.mk.injEq]at h;obtain⟨_,rfl⟩:=h;simp[qa5]
 |deep,.str _,m,js,h,i=>by simp only[qcb,Option.some.injEq,Prod.mk.injEq]at h;obtain⟨_,rfl⟩:=h;simp[qa5]
theorem qj0{bl:List (Sc.Id×Nat)}(v:(bl.map (·.1)).Nodup)(c:∀b,b∈bl->b.1.1≠qbv):∀(deep:Nat) (l:List Dt) {L:List Mkr} {js:List Nat},qbj bl deep l=some (L,js)->∀i:Nat,(i∈js↔∃id n,bl[i]? =some (id,n)/\0<n/\qbm id l=true)/\(i∈js->∀id n,bl[i]? =some (id,n)->deep<=n)
 |deep,[],L,js,h,i=>by simp only[qbj,Option.some.injEq,Prod.mk.injEq]at h;obtain⟨_,rfl⟩:=h;simp[qbm]
 |deep,[t],L,js,h,i=>by
  simp only[qbj]at h;cases hc:qcb bl deep t with
  |none=>rw[hc]at h;simp at h
  |some p=>
   obtain⟨m,ks⟩:=p;rw[hc]at h;simp only[Option.some.injEq,Prod.mk.injEq]at h;obtain⟨_,rfl⟩:=h;simpa[qbm]using qhu v c deep t hc i
 |deep,t::q::r,L,js,h,i=>by
  simp only[qbj]at h;cases hq:qam q with
  |true=>
   rw[hq]at h;simp only[if_true]at h;cases hc:qcb bl (deep+1) t with
   |none=>rw[hc]at h;simp at h
   |some p=>
    obtain⟨m,ks⟩:=p;rw[hc]at h;simp only at h;cases hk:ks.isEmpty with
    |true=>rw[hk]at h;simp at h
    |false=>
     rw[hk]at h;simp only[Bool.false_eq_true,if_false]at h;cases hr:qbj bl deep r with
     |none=>rw[hr]at h;simp at h
     |some s=>
      obtain⟨M,y⟩:=s;rw[hr]at h;simp only[Option.some.injEq,Prod.mk.injEq]at h;obtain⟨_,rfl⟩:=h;have g:=qhu v c (deep+1) t hc i;have j:=qj0 v c deep r hr i;have w:∀id n,bl[i]? =some (id,n)->qa5 id q=false:=λid n o=>by
       cases q with
       |sym x k=>
        simp only[qam,beq_iff_eq]at hq;have:=c _ (List.mem_of_getElem? o);simp only[qa5];cases hst:((x,k)==id)with
        |false=>rfl
        |true=>
         have e:(x,k)=id:=by simpa using hst
         subst e;exact absurd hq this
       |_=>simp[qam]at hq
      refine⟨⟨λu=>?_,λ⟨id,n,a,d,f⟩=>?_⟩,λu id n o=>?_⟩
      ·rcases List.mem_append.1 u with h|h
       ·obtain⟨id,n,a,d,f⟩:=g.1.1 h;exact⟨id,n,a,d,by simp[qbm,f]⟩
       ·obtain⟨id,n,a,d,f⟩:=j.1.1 h;exact⟨id,n,a,d,by simp[qbm,f]⟩
      ·simp only[qbm,w id n a,Bool.false_or,Bool.or_eq_true]at f;rcases f with h|h
       ·exact List.mem_append.2 (.inl (g.1.2 ⟨id,n,a,d,h⟩))
       ·exact List.mem_append.2 (.inr (j.1.2 ⟨id,n,a,d,h⟩))
      ·rcases List.mem_append.1 u with h|h
       ·have:=g.2 h id n o;omega
       ·exact j.2 h id n o
  |false=>
   rw[hq]at h;simp only[Bool.false_eq_true,if_false]at h;cases hc:qcb bl deep t with
   |none=>rw[hc]at h;simp at h
   |some p=>
    obtain⟨m,ks⟩:=p;rw[hc]at h;simp only at h;cases hr:qbj bl deep (q::r)with
    |none=>rw[hr]at h;simp at h
    |some s=>
     obtain⟨M,y⟩:=s;rw[hr]at h;simp only[Option.some.injEq,Prod.mk.injEq]at h;obtain⟨_,rfl⟩:=h;have g:=qhu v c deep t hc i;have j:=qj0 v c deep (q::r) hr i;refine⟨⟨λu=>?_,λ⟨id,n,a,d,f⟩=>?_⟩,λu id n o=>?_⟩
     ·rcases List.mem_append.1 u with h|h
      ·obtain⟨id,n,a,d,f⟩:=g.1.1 h;exact⟨id,n,a,d,by simp[qbm,f]⟩
      ·obtain⟨id,n,a,d,f⟩:=j.1.1 h;refine⟨id,n,a,d,?_⟩;rw[qbm,f];simp
     ·rw[qbm,Bool.or_eq_true]at f;rcases f with h|h
      ·exact List.mem_append.2 (.inl (g.1.2 ⟨id,n,a,d,h⟩))
      ·exact List.mem_append.2 (.inr (j.1.2 ⟨id,n,a,d,h⟩))
     ·rcases List.mem_append.1 u with h|h
      ·exact g.2 h id n o
      ·exact j.2 h id n o
end
theorem qsf(k:Nat)(trs:List Tr)(is:List Nat)(i:Nat):(peel k trs is)[i]? =if i∈is then(trs[i]?).map (nth k)else trs[i]?:=by
 suffices h:∀(is:List Nat) (a:List Tr),a.length=trs.length->(is.foldl (λa i=>a.set i (((trs[i]?).map (nth k)).getD (.row []))) a)[i]? =if i∈is then(trs[i]?).map (nth k)else a[i]? from h is trs rfl
 intro is;induction is with
 |nil=>intro a _;simp
 |cons j r f=>
  intro a g;simp only[List.foldl_cons];rw[f _ (by simpa using g)];by_cases c:i∈r
  ·simp[c]
  ·by_cases d:i=j
   ·subst d;simp only[c,if_false,List.mem_cons,true_or,if_true];rw[List.getElem?_set];simp only[if_true];by_cases e:i<a.length
    ·have b:i<trs.length:=by omega
     simp[e,eG b]
    ·have b:¬i<trs.length:=by omega
     simp[e,List.getElem?_eq_none (Nat.le_of_not_lt b)]
   ·simp only[c,if_false,List.mem_cons,d,or_self];rw[List.getElem?_set_ne (Ne.symm d)]
theorem qhp(t:Dt)(k:Nat):∀(b:qdq) (i:Nat),(qde t k b)[i]? =(b[i]?).map λp=>match p.2 with
  | .row l=>if qa5 p.1 t then(p.1,l[k]?.getD (.row []))else p
  | .one _=>p
 | [],i=>by simp[qde]
 |(id,.row l)::r,0=>by simp[qde]
 |(id,.one d)::r,0=>by simp[qde]
 |(id,.row l)::r,i+1=>by simpa[qde]using qhp t k r i
 |(id,.one d)::r,i+1=>by simpa[qde]using qhp t k r i
def Fit(bl:List (Sc.Id×Nat))(deep:Nat)(st:Sc.Id->Bool)(trs:List Tr):Prop:=∀(i:Nat) (id:Sc.Id) (n:Nat),bl[i]? =some (id,n)->st id=true->∃t,trs[i]? =some t/\(n=0->∃d,t=.one d)/\(0<n->TrD (n-deep) t)
theorem qty{bl:List (Sc.Id×Nat)}{t:Dt}{deep:Nat}{trs:List Tr}{js:List Nat}{k:Nat}(p:trs.length=bl.length)(a:∀i:Nat,i∈js↔∃id n,bl[i]? =some (id,n)/\0<n/\qa5 id t=true)(q:Fit bl deep (λid=>qa5 id t) trs):qde t k (bnd bl trs)=bnd bl (peel k trs js):=by
 apply List.ext_getElem?;intro i;rw[qhp,qlx,qlx,qsf];cases hb:bl[i]? with
 |none=>simp
 |some b=>
  obtain⟨id,n⟩:=b;have m:i<trs.length:=by rw[p];exact(eL.1 hb).1
  rw[eG m];simp only[Option.map_some];cases hst:qa5 id t with
  |false=>
   have f:i∉js:=λh=>by
    obtain⟨g,r,c,_,o⟩:=(a i).1 h;rw[hb]at c;cases c;rw[hst]at o;cases o
   rw[if_neg f];simp only;split <;> simp_all
  |true=>
   obtain⟨tr,e,s,v⟩:=q i id n hb hst;rw[eG m]at e;have e:trs[i]=tr:=Option.some.inj e;by_cases u:n=0
   ·obtain⟨d,rfl⟩:=s u;have f:i∉js:=λh=>by
     obtain⟨g,r,c,w,_⟩:=(a i).1 h;rw[hb]at c;cases c;omega
    rw[if_neg f,e]
   ·have j:i∈js:=(a i).2 ⟨id,n,hb,by omega,hst⟩;rw[if_pos j,e];cases tr with
    |row l=>simp[nth]
    |one d=>simp[nth]
def Ls(t:Dt)(b:qdq):List Nat:=b.filterMap λp=>match p.2 with
 | .row l=>if qa5 p.1 t then some l.length else none
 | .one _=>none
theorem qd6(t:Dt)(n:Nat):∀b:qdq,(∀q,q∈Ls t b->q=n)->Sc.rowLen t b=some (if Ls t b=[]then none else some n)
 | [],_=>by simp[Sc.rowLen,Ls]
 |(i,.one d)::r,h=>by
  have e:Ls t ((i,.one d)::r)=Ls t r:=by simp[Ls]
  rw[e]at h|-;simpa[Sc.rowLen]using qd6 t n r h
 |(i,.row l)::r,h=>by
  cases hs:qa5 i t with
  |false=>
   have e:Ls t ((i,.row l)::r)=Ls t r:=by simp[Ls,hs]
   rw[e]at h|-;have:=qd6 t n r h;simp only[Sc.rowLen,this,hs];simp
  |true=>
   have e:Ls t ((i,.row l)::r)=l.length::Ls t r:=by simp[Ls,hs]
   rw[e]at h|-;have a:l.length=n:=h _ (by simp);have:=qd6 t n r λq f=>h q (by simp[f])
   simp only[Sc.rowLen,this,hs];by_cases c:Ls t r=[]
   ·simp[c,a]
   ·simp[c,a]
theorem qel(t:Dt):∀(b:qdq) (o:Option Nat),Sc.rowLen t b=some o->∀q,q∈Ls t b->o=some q
 | [],o,_,q,hq=>by simp[Ls]at hq
 |(i,.one d)::r,o,h,q,hq=>by
  have e:Ls t ((i,.one d)::r)=Ls t r:=by simp[Ls]
  rw[e]at hq;exact qel t r o (by simpa[Sc.rowLen]using h) q hq
 |(i,.row l)::r,o,h,q,hq=>by
  simp only[Sc.rowLen]at h;cases hr:Sc.rowLen t r with
  |none=>rw[hr]at h;simp at h
  |some o2=>
   rw[hr]at h;have a:=qel t r o2 hr;cases hs:qa5 i t with
   |false=>
    rw[hs]at h;have e:Ls t ((i,.row l)::r)=Ls t r:=by simp[Ls,hs]
    rw[e]at hq;simp at h;rw[<-h];exact a q hq
   |true=>
    rw[hs]at h;have e:Ls t ((i,.row l)::r)=l.length::Ls t r:=by simp[Ls,hs]
    rw[e]at hq;simp only[if_true]at h;cases o2 with
    |none=>
     simp only[Option.some.injEq]at h;rw[<-h];rcases List.mem_cons.1 hq with e|e
     ·rw[e]
     ·have:=a q e;cases this
    |some k=>
     simp only at h;by_cases c:k=l.length
     ·simp only[c,beq_self_eq_true,if_true,Option.some.injEq]at h;rw[<-h];rcases List.mem_cons.1 hq with e|e
      ·rw[e]
      ·have:=a q e;rw[c]at this;exact this
     ·simp[c]at h
theorem q0a{bl:List (Sc.Id×Nat)}{deep:Nat}{trs:List Tr}(_:trs.length=bl.length)(f:∀i:Nat,i∈js↔∃id n,bl[i]? =some (id,n)/\0<n/\qa5 id t=true)(p:∀i,i∈js->∀id n,bl[i]? =some (id,n)->deep+1<=n)(r:Fit bl deep (λid=>qa5 id t) trs)(q:Nat):q∈qfn js trs↔q∈Ls t (bnd bl trs):=by
 have row:∀i,i∈js->∃id n l,bl[i]? =some (id,n)/\qa5 id t=true/\trs[i]? =some (.row l):=λi a=>by
  obtain⟨id,n,c,g,j⟩:=(f i).1 a;obtain⟨s,m,_,v⟩:=r i id n c j;have u:=p i a id n c;have:=v g;obtain⟨k,w⟩:∃k,n-deep=k+1:=⟨n-deep-1,by omega⟩;rw[w]at this;cases this with
  |row _ l _=>exact⟨id,n,l,c,j,m⟩
 constructor
 ·intro h;simp only[qfn,List.mem_map]at h;obtain⟨i,a,rfl⟩:=h;obtain⟨id,n,l,c,g,j⟩:=row i a;simp only[Ls,List.mem_filterMap];refine⟨(id,.row l),List.mem_iff_getElem?.2 ⟨i,by rw[qlx,c,j]⟩,?_⟩;simp[g,j,trN]
 ·intro h;simp only[Ls,List.mem_filterMap]at h;obtain⟨⟨id,s⟩,x,o⟩:=h;obtain⟨i,a⟩:=List.mem_iff_getElem?.1 x;rw[qlx]at a;cases hb:bl[i]? with
  |none=>rw[hb]at a;simp at a
  |some b=>
   cases ht:trs[i]? with
   |none=>rw[hb,ht]at a;simp at a
   |some y=>
    rw[hb,ht]at a;simp only[Option.some.injEq,Prod.mk.injEq]at a;obtain⟨c,g⟩:=a;subst g;obtain⟨e,n⟩:=b;simp only at c;subst c;cases y with
    |one d=>simp at o
    |row l=>
     cases hs:qa5 e t with
     |false=>simp[hs]at o
     |true=>
      simp only[hs,if_true,Option.some.injEq]at o;obtain⟨s,m,z,_⟩:=r i e n hb hs;rw[ht]at m;cases m;have A:0<n:=by
       rcases Nat.eq_zero_or_pos n with h0|h0
       ·obtain⟨d,u⟩:=z h0;cases u
       ·exact h0
      simp only[qfn,List.mem_map];exact⟨i,(f i).2 ⟨e,n,hb,A,hs⟩,by simp[ht,trN,o]⟩
theorem qla{α:Type}(mark:Int)(trs:List Tr)(f:α->Mkr)(g:α->Option Dt):∀l:List α,(∀k,k∈l->(f k).mks mark trs=(g k).map λd=>[d])->qbp (l.map f) mark trs=l.mapM g
 | [],_=>rfl
 |k::r,h=>by
  have a:=qla mark trs f g r λk b=>h k (by simp[b])
  simp only[List.map_cons,qbp,h k (by simp),a,List.mapM_cons];cases g k with
  |none=>rfl
  |some d=>
   simp only[Option.map_some];cases r.mapM g <;> rfl
theorem Fit.sub{bl:List (Sc.Id×Nat)}{deep:Nat}{f g:Sc.Id->Bool}{trs:List Tr}(h:Fit bl deep f trs)(a:∀id,g id=true->f id=true):Fit bl deep g trs:=λi id n b c=>h i id n b (a id c)
theorem Fit.peel{bl:List (Sc.Id×Nat)}{deep:Nat}{trs:List Tr}(b:∀i:Nat,i∈js↔∃id n,bl[i]? =some (id,n)/\0<n/\qa5 id t=true)(g:∀i,i∈js->∀id n,bl[i]? =some (id,n)->deep+1<=n)(p:Fit bl deep (λid=>qa5 id t) trs)(q:∀i l,i∈js->trs[i]? =some (.row l)->k<l.length):Fit bl (deep+1) (λid=>qa5 id t) (peel k trs js):=λi id n f j=>by
 obtain⟨r,m,s,u⟩:=p i id n f j;rw[qsf,m];by_cases z:n=0
 ·have v:i∉js:=λh=>by
   obtain⟨w,A,o,B,_⟩:=(b i).1 h;rw[f]at o;cases o;omega
  rw[if_neg v];exact⟨r,rfl,s,λh=>by omega⟩
 ·have a:i∈js:=(b i).2 ⟨id,n,f,by omega,j⟩;rw[if_pos a];have C:=g i a id n f;have d:=u (by omega);obtain⟨c,x⟩:∃c,n-deep=c+1:=⟨n-deep-1,by omega⟩;rw[x]at d;cases d with
  |row _ l y=>
   have e:=q i l a m;refine⟨l[k],by simp[nth,eG e],λh=>by omega,λ_=>?_⟩;rw[show n-(deep+1)=c by omega];exact y _ (List.getElem_mem e)
mutual
theorem qjy{bl:List (Sc.Id×Nat)}(q:(bl.map (·.1)).Nodup)(g:∀b,b∈bl->b.1.1≠qbv):∀(deep:Nat) (d:Dt) {m:Mkr} {js:List Nat},qcb bl deep d=some (m,js)->∀trs:List Tr,trs.length=bl.length->Fit bl deep (λid=>qa5 id d) trs->m.ok trs/\∀mark:Int,m.mks mark trs=(qgi mark (bnd bl trs) d).map λx=>[x]
 |deep,.sym t mm,m,js,h,trs,hl,hf=>by
  simp only[qcb]at h;cases ht:(t==qbv)with
  |true=>rw[ht]at h;simp at h
  |false=>
   rw[ht]at h;simp only[Bool.false_eq_true,if_false]at h;cases hx:ixB (t,mm) bl with
   |none=>
    rw[hx]at h;simp only[Option.some.injEq,Prod.mk.injEq]at h;obtain⟨rfl,rfl⟩:=h;refine⟨trivial,λmark=>?_⟩;simp only[qgi,qj4 hl,hx,Option.map_some]
   |some a=>
    rw[hx]at h;obtain⟨n,f,k⟩:=qs7 hx;simp only[f,Option.map_some,Option.getD_some]at h;obtain⟨r,o,s,u⟩:=hf a (t,mm) n f (by simp[qa5]);have e:∀d,r=.one d->(∃d,trs[a]? =some (.one d))/\∀mark:Int,qg6 a trs=(qgi mark (bnd bl trs) (.sym t mm)).map λx=>[x]:=λd c=>by
     subst c;refine⟨⟨d,o⟩,λmark=>?_⟩;simp only[qgi,qj4 hl,hx,o,Option.map_some,qg6]
    by_cases i:n=0
    ·simp only[i,beq_self_eq_true,if_true,Option.some.injEq,Prod.mk.injEq]at h;obtain⟨rfl,rfl⟩:=h;obtain⟨d,c⟩:=s i;exact e d c
    ·have j:(n==0)=false:=by simpa using i
     rw[j]at h;by_cases c:n=deep
     ·simp only[Bool.false_eq_true,if_false,c,beq_self_eq_true,if_true,Option.some.injEq,Prod.mk.injEq]at h;obtain⟨rfl,rfl⟩:=h;have:=u (by omega);rw[c,Nat.sub_self]at this;cases this with
      |one d=>exact e d rfl
     ·have:(n==deep)=false:=by simpa using c
      rw[this]at h;simp at h
 |deep,.list l,m,js,h,trs,hl,hf=>by
  simp only[qcb]at h;cases hc:qbj bl deep l with
  |none=>rw[hc]at h;simp at h
  |some p=>
   obtain⟨L,ks⟩:=p;rw[hc]at h;simp only[Option.some.injEq,Prod.mk.injEq]at h;obtain⟨rfl,rfl⟩:=h;obtain⟨f,k⟩:=qjz q g deep l hc trs hl hf;refine⟨f,λmark=>?_⟩;simp only[qgi,k mark];cases qsb mark (bnd bl trs) l <;> rfl
 |deep,.num _,m,js,h,trs,hl,hf=>by simp only[qcb,Option.some.injEq,Prod.mk.injEq]at h;obtain⟨rfl,rfl⟩:=h;exact⟨trivial,λmark=>by simp[qgi]⟩
 |deep,.bool _,m,js,h,trs,hl,hf=>by simp only[qcb,Option.some.injEq,Prod.mk.injEq]at h;obtain⟨rfl,rfl⟩:=h;exact⟨trivial,λmark=>by simp[qgi]⟩
 |deep,.str _,m,js,h,trs,hl,hf=>by simp only[qcb,Option.some.injEq,Prod.mk.injEq]at h;obtain⟨rfl,rfl⟩:=h;exact⟨trivial,λmark=>by simp[qgi]⟩
theorem qjz{bl:List (Sc.Id×Nat)}(B:(bl.map (·.1)).Nodup)(g:∀b,b∈bl->b.1.1≠qbv):∀(deep:Nat) (l:List Dt) {L:List Mkr} {js:List Nat},qbj bl deep l=some (L,js)->∀trs:List Tr,trs.length=bl.length->Fit bl deep (λid=>qbm id l) trs->(∀m,m∈L->m.ok trs)/\∀mark:Int,qbp L mark trs=qsb mark (bnd bl trs) l
 |deep,[],L,js,h,trs,hl,hf=>by simp only[qbj,Option.some.injEq,Prod.mk.injEq]at h;obtain⟨rfl,rfl⟩:=h;exact⟨λm W=>by simp at W,λmark=>by simp[qbp,qsb]⟩
 |deep,[t],L,js,h,trs,hl,hf=>by
  simp only[qbj]at h;cases hc:qcb bl deep t with
  |none=>rw[hc]at h;simp at h
  |some p=>
   obtain⟨m,ks⟩:=p;rw[hc]at h;simp only[Option.some.injEq,Prod.mk.injEq]at h;obtain⟨rfl,rfl⟩:=h;obtain⟨K,N⟩:=qjy B g deep t hc trs hl (hf.sub λid f=>by simp[qbm,f]);refine⟨λx G=>(by have e:x=m:=(by simpa using G);rw[e];exact K),λmark=>?_⟩;simp only[qbp,N mark,qsb];cases qgi mark (bnd bl trs) t <;> simp
 |deep,t::q::r,L,js,h,trs,hl,hf=>by
  simp only[qbj]at h;cases z:qam q with
  |true=>
   rw[z]at h;simp only[if_true]at h;cases hc:qcb bl (deep+1) t with
   |none=>rw[hc]at h;simp at h
   |some p=>
    obtain⟨m,ks⟩:=p;rw[hc]at h;simp only at h;cases hk:ks.isEmpty with
    |true=>rw[hk]at h;simp at h
    |false=>
     rw[hk]at h;simp only[Bool.false_eq_true,if_false]at h;cases hr:qbj bl deep r with
     |none=>rw[hr]at h;simp at h
     |some s=>
      obtain⟨M,X⟩:=s;rw[hr]at h;simp only[Option.some.injEq,Prod.mk.injEq]at h;obtain⟨rfl,rfl⟩:=h;have v:=λi=>(qhu B g (deep+1) t hc i).1
      have C:=λi=>(qhu B g (deep+1) t hc i).2
      have w:Fit bl deep (λid=>qa5 id t) trs:=hf.sub λid f=>by simp[qbm,f]
      obtain⟨O,P⟩:=qjz B g deep r hr trs hl (hf.sub λid f=>by simp[qbm,f]);have H:∀i,i∈ks->∃l,trs[i]? =some (.row l):=λi u=>by
       obtain⟨id,n,U,Y,Z⟩:=(v i).1 u;obtain⟨tr,q1,_,q3⟩:=w i id n U Z;have hd:=C i u id n U;have I:=q3 Y;obtain⟨c,Q⟩:∃c,n-deep=c+1:=⟨n-deep-1,by omega⟩;rw[Q]at I;cases I with
       |row _ l _=>exact⟨l,q1⟩
      have J:∀i l,i∈ks->trs[i]? =some (.row l)->l.length∈qfn ks trs:=λi l u R=>List.mem_map.2 ⟨i,u,by simp[R,trN]⟩
      have A:∀n,(∀q,q∈qfn ks trs->q=n)->∀k,k<n->m.ok (peel k trs ks)/\∀mark:Int,m.mks mark (peel k trs ks)=(qgi mark (qde t k (bnd bl trs)) t).map λx=>[x]:=λn d k D=>by
       have S:Fit bl (deep+1) (λid=>qa5 id t) (peel k trs ks):=Fit.peel v (λi u id n h=>C i u id n h) w λi l u R=>by rw[d _ (J i l u R)];exact D
       have:=qjy B g (deep+1) t hc (peel k trs ks) (by rw[qjd];exact hl) S;rw[qty hl v w];exact this
      refine⟨λx G=>?_,λmark=>?_⟩
      ·rcases List.mem_cons.1 G with e|e
       ·subst e;exact⟨H,λn d k D=>(A n d k D).1⟩
       ·exact O x e
      ·obtain⟨n0,E⟩:∃n0,(qfn ks trs)[0]? =some n0:=by
        cases ks with
        |nil=>cases hk
        |cons a b=>exact⟨_,rfl⟩
       have j:n0∈qfn ks trs:=List.mem_of_getElem? E;have y:=λq=>q0a hl v (λi u id n h=>C i u id n h) w q
       simp only[qbp,qsb,z,if_true,P mark];by_cases d:∀q,q∈qfn ks trs->q=n0
       ·rw[qn9 E d,qd6 t n0 (bnd bl trs) λq z=>d q ((y q).2 z)];have hne:¬Ls t (bnd bl trs)=[]:=λe=>by have:=(y n0).1 j;rw[e]at this;simp at this
        rw[if_neg hne];simp only[Option.getD_some];have:=qla mark trs (qkw ks m) (λk=>qgi mark (qde t k (bnd bl trs)) t) (List.range n0) λk T=>(A n0 d k (List.mem_range.1 T)).2 mark
        unfold qgh;rw[this];cases (List.range n0).mapM λk=>qgi mark (qde t k (bnd bl trs)) t with
        |none=>rfl
        |some a=>cases qsb mark (bnd bl trs) r <;> rfl
       ·rw[qoa E d];have F:Sc.rowLen t (bnd bl trs)=none:=by
         cases hrl:Sc.rowLen t (bnd bl trs)with
         |none=>rfl
         |some o=>
          have V:=qel t (bnd bl trs) o hrl;have h0:=V n0 ((y n0).1 j);exact absurd (λq z=>by have:=V q ((y q).1 z);rw[h0]at this;exact(Option.some.inj this).symm) d
        rw[F]
  |false=>
   rw[z]at h;simp only[Bool.false_eq_true,if_false]at h;cases hc:qcb bl deep t with
   |none=>rw[hc]at h;simp at h
   |some p=>
    obtain⟨m,ks⟩:=p;rw[hc]at h;simp only at h;cases hr:qbj bl deep (q::r)with
    |none=>rw[hr]at h;simp at h
    |some s=>
     obtain⟨M,X⟩:=s;rw[hr]at h;simp only[Option.some.injEq,Prod.mk.injEq]at h;obtain⟨rfl,rfl⟩:=h;obtain⟨K,N⟩:=qjy B g deep t hc trs hl (hf.sub λid f=>by simp[qbm,f]);obtain⟨O,P⟩:=qjz B g deep (q::r) hr trs hl (hf.sub λid f=>by show qbm id (t::q::r)=true;rw[qbm];rw[f];simp);refine⟨λx G=>?_,λmark=>?_⟩
     ·rcases List.mem_cons.1 G with e|e
      ·subst e;exact K
      ·exact O x e
     ·simp only[qbp,N mark,P mark];rw[qsb,z];simp only[Bool.false_eq_true,if_false];cases qgi mark (bnd bl trs) t with
      |none=>rfl
      |some a=>cases qsb mark (bnd bl trs) (q::r) <;> rfl
end
def qnv(G:Gh)(w0:Wd)(H:Gh)(w:Wd)(tb lo c:Nat)(bs:List Bk)(is:List Nat)(Pn:List Pd)(res:Option (List Mkr×List Nat))(e:En)(w':Wd):Prop:=
 (e=.panicked (qan (qap 4))/\Below w0.heap.size w0 w'/\res=none)\/
 (∃H' b new Pn' L,e=.returned (.func (.func 412) #[] #[bp b])/\res=some (L,new)/\new.length<=c/\Tst G w0 H' w' tb lo bs (is++new) Pn'/\SpT H w H' w'/\(∀p,p∈Pn->p∈Pn')/\∀Gf:Gh,H'.le Gf->PnOk Gf Pn'->Mks Gf (λtrs=>∀m,m∈L->m.ok trs) (qbp L) (.func (.func 412) #[] #[bp b]))
def MbR(G:Gh)(w0:Wd)(H:Gh)(w:Wd)(tb lo:Nat)(bs:List Bk)(is:List Nat)(Pn:List Pd)(l:List Dt)(deep:Nat)(res:Option (List Mkr×List Nat))(k:Nat)(s1:Vu)(wr:Wd):Prop:=
 ∃(r:List Dt) (a:OA) (len cap:Nat) (H':Gh) (Pn':List Pd) (Ld:List Mkr) (jd:List Nat) (vs:List Vu) (mv:Vu),k=r.length/\s1=.slice a len cap/\DRow H' a len cap r/\(∀d,d∈r->d∈l)/\res=qb9 Ld jd (qbj (bs.map idB) deep r)/\jd.length+qad r<=qad l/\Ld.length+r.length<=l.length/\Tst G w0 H' wr tb lo bs (is++jd) Pn'/\SpT H w H' wr/\(∀p,p∈Pn->p∈Pn')/\MkB H' wr w.heap.size mv vs/\vs.length=Ld.length/\∀Gf:Gh,H'.le Gf->PnOk Gf Pn'->MkRow Gf Ld vs
@[reducible] def S6(g o:Nat)(yk yn:Int)(ytr:Bool)(ytx:BA)(ym:Int)(ya:OA)(yl yc:Nat)(w:Wd):Prop:=w.cell? ⟨g,o,none⟩=some (.int .i64 yk)/\w.cell? ⟨g,o+1,none⟩=some (.int .i64 yn)/\w.cell? ⟨g,o+2,none⟩=some (.bool ytr)/\w.cell? ⟨g,o+3,none⟩=some (.string ytx)/\w.cell? ⟨g,o+4,none⟩=some (.int .i64 ym)/\w.cell? ⟨g,o+5,none⟩=some (.slice ya yl yc)
theorem q0i:(prog.info? 404).map (λi=>(i.zero,i.size,i.bytes))=some (some .nilFunc,1,8):=by kernel_rfl
theorem qj2{b t:Nat}{v:Vu}(h:w.heap[b]? =some (.cells #[v] t (0,0))):w.cell? ⟨b,0,none⟩=some v:=by simp[World.cell?,h]
theorem qg8(f:Nat)(a:Array Vu)(w2:Wd):∀j u,[Value.func (.func f) #[] a][j]? =some u->(w2.alloc (.cells #[.func (.func f) #[] a] 404)).cell? ((⟨w2.heap.size,0,none⟩:Addr).add j)=some u:=World.news_of_block (cs:=#[.func (.func f) #[] a]) (eN w2 (.cells #[.func (.func f) #[] a] 404))
theorem qjf(f:Nat)(b:Array Vu):∀u∈[Value.func (.func f) #[] b],u.oneCell'=true:=λu a=>by
 simp at a;rcases a with rfl;rfl
structure Nx (G:Gh) (w0:Wd) (H:Gh) (w:Wd) (tb lo:Nat) (bs:List Bk) (is:List Nat) (Pn:List Pd) (l:List Dt) (deep:Nat) (res:Option (List Mkr×List Nat)) (mv:Vu) (vn:Nat) (vs:List Vu) (S:Wd->Prop) (kn:Nat) (s1:Vu) (f:Nat) (cp:Array Vu) (w2:Wd):Prop where
 own:w2.ownsRow (w.heap.size+1) 404 1 mv vn vs
 low:w.heap.size+1<=w2.heap.size
 box:w2.heap[w.heap.size]? =some (.cells #[mv] 483 (0,0))
 s2:S w2
 s2A:S (w2.alloc (.cells #[.func (.func f) #[] cp] 404))
 fin:∀(g3 cap3:Nat) (w4:Wd),w4.ownsRow (w.heap.size+1) 404 1 (.slice (some ⟨g3,0,none⟩) (vn+1) cap3) (vn+1) (vs++[.func (.func f) #[] cp])->(w2.alloc (.cells #[.func (.func f) #[] cp] 404)).grownBy w4 mv.ownBlock->(mv.ownBlock=some g3\/g3=(w2.alloc (.cells #[.func (.func f) #[] cp] 404)).heap.size)->
  w4.cell? ⟨w.heap.size,0,none⟩=some mv/\(∀o,w4.frozen? ⟨w.heap.size,o,none⟩=false)/\S w4/\S (w4.setCell ⟨w.heap.size,0,none⟩ (.slice (some ⟨g3,0,none⟩) (vn+1) cap3))/\∀w5,Lk (w4.setCell ⟨w.heap.size,0,none⟩ (.slice (some ⟨g3,0,none⟩) (vn+1) cap3)) w5->MbR G w0 H w tb lo bs is Pn l deep res kn s1 w5
theorem q2c{A:Gh}{X:Wd}{bs:List Bk}{V:List Nat}{s:List Pd}{deep:Nat}{j:Option (List Mkr×List Nat)}{mv:Vu}{S:Wd->Prop}{E:List Mkr}{t:Array Vu}(u:A.I g=some (.cells t 134 (0,0)))(n:∀W:Wd,W.heap[g]? =some (.cells t 134 (0,0))->S W)(s1:SpT H w A X)(b1:MkB A X w.heap.size mv vs)(Y:∀p,p∈Pn->p∈s)(Z:w0.heap.size<=w.heap.size)(a0:vs.length=E.length)(F:∀B:Gh,A.le B->PnOk B s->MkRow B E vs)
  {rd:Option (Mkr×List Nat)}{c:Nat}{x:List Dt}{a':OA}{b i:Nat}(J:j=qb9 E V (qe8 rd (qbj (bs.map idB) deep x)))(a1:DRow A a' b i x)(K:∀d,d∈x->d∈l)(a7:V.length+c+qad x<=qad l)(a8:E.length+1+x.length<=l.length)(L:∀w2,Below w0.heap.size w0 w2->rd=none->qnv G w0 H w tb lo (qad l) bs is Pn j (.panicked (qan (qap 4))) w2)
  {e:En}{w2:Wd}(h:q32 G w0 A X tb lo c bs (is++V) s rd e w2):
  ((∃p,e=.panicked p)/\qnv G w0 H w tb lo (qad l) bs is Pn j e w2)\/(∃f M,e=.returned (.func (.func f) #[] M)/\Nx G w0 H w tb lo bs is Pn l deep j mv vs.length vs S x.length (.slice a' b i) f M w2):=by
 rcases h with⟨rfl,q1,q2⟩|⟨H2,v,new,a2,m,rfl,⟨f,M,rfl⟩,q2,q3,t2,C,N,hm⟩
 ·exact .inl ⟨⟨_,rfl⟩,L _ q1 q2⟩
 ·refine .inr ⟨f,M,rfl,?_⟩;have D:=b1.step C;have y:=D.box;have O:=(eE.1 y).1;have r:=t2.k.imm (C.ext.le.I u);have P:=(eE.1 r).1;have a3:g≠w.heap.size:=λe=>by have:=b1.I;rw[<-e,u]at this;cases this
  refine⟨D.own,O,y,n _ r,n _ (by rw[eH _ _ _ P];exact r),λg3 a6 w4 ho z ha=>?_⟩;have hA:Below w2.heap.size w2 (w2.alloc (.cells #[.func (.func f) #[] M] 404)):=qaa _ _;have Q:w4.heap[w.heap.size]? =some (.cells #[mv] 483 (0,0)):=by
   rw[z.block _ (by simp;omega) (λe=>by have:=(D.own.lt _ e.symm).1;omega),hA.block _ O];exact y
  have R:w4.heap[g]? =some (.cells t 134 (0,0)):=by
   rw[z.block _ (by simp;omega) (λe=>by have:=D.loose g e.symm;rw[C.ext.le.I u]at this;cases this),hA.block _ P];exact r
  refine⟨by simp only[World.cell?,Q];rfl,λo=>by simp[World.frozen?,Q],n _ R,n _ (by rw[qab (a:=⟨w.heap.size,0,none⟩) _ a3];exact R),λw5 a4=>?_⟩;obtain⟨t5,b5,s5⟩:=MkB.push t2 D Z hA z ho ha a4;have a5:=SpT.trans s1 C;refine⟨x,a',b,i,H2,a2,E++[m],V++new,_,_,rfl,rfl,a1.mono C.ext.le,K,?_,by simp;omega,by simp;omega,by rw[<-List.append_assoc];exact t5,a5.then s5 (λq hq h=>?_),λp hp=>N p (Y p hp),b5,by simp[a0],λB T U=>?_⟩
  ·rw[J,q2];simp only[qe8];rw[qnl]
  ·exfalso;rcases h with h|h
   ·omega
   ·have:=(D.own.lt q h).1;omega
  ·exact(F B (C.ext.le.trans T) (U.sub N)).snoc (hm B T U)
theorem qss(l:List Dt)(hP:∀d,d∈l->qq6 d)(hR:∀d,d∈l->q62 d){bs:List Bk}{a:OA}{len cap deep:Nat}(t:Tst G w0 H w tb lo bs is Pn)(hr:DRow H a len cap l)(hk:deep+qad l<=1000000000000)(hb:is.length+qad l<=1000000000000):
  Calls prog 392 #[bp tb,.slice a len cap,.int .i64 (deep:Int)] w (qnv G w0 H w tb lo (qad l) bs is Pn (qbj (bs.map idB) deep l)):=by
 obtain⟨i0,hi,c3,c4,c5⟩:=info_parts q0i;obtain⟨L,c6⟩:∃L,L=qbj (bs.map idB) deep l:=⟨_,rfl⟩;rw[<-c6];have c7:l.length<=30000:=by have:=hr.len;obtain⟨_,_,_,_,_,h,_⟩:=hr;omega
 have f6:=t.k.bel.size;have g7:=hZ c6;have HP:=hZ hP;have HR:=hZ hR;have HT:=hZ t;have g8:=hZ hr;have j1:(0:Int)<=(deep:Int):=by omega
 have j2:(deep:Int)<=1000000000000:=by omega
 have j3:IntKind.i64.wrap ((deep:Int)+1)=(deep:Int)+1:=by rw[IntKind.wrap_i64];omega
 clear c6 hP hR t hr;go_enter func392,ntmps392
 go_wp2;go_loopg [1] l.length (MbR G w0 H w tb lo bs is Pn l deep L)
 case atStart=>
  have g9:=qaa w (.cells #[.slice none 0 0] 483);refine⟨l,a,len,cap,H,Pn,[],[],[],.slice none 0 0,rfl,rfl,g8.out,λd h=>h,by rw[qnk];exact g7.out,by simp,by simp,by simpa using HT.out.below g9,SpT.below g9,λp h=>h,⟨eN _ _,HT.out.k.fresh (eR _),⟨rfl,.inl ⟨rfl,rfl⟩⟩,nofun⟩,rfl,λGf _ _=>⟨rfl,λi m v h=>by simp at h⟩⟩
 case round=>
  obtain⟨r,a',j4,cap',H1,e7,Ld,jd,vs,mv,rfl,rfl,U,O,Z,e8,V,t1,s1,b7,b1,c8,P⟩:=hrel;obtain⟨j,rfl⟩:∃j,j=wr:=⟨_,rfl⟩;have X:=U.len;cases r with
  |nil=>
   simp only[List.length_nil]at X;subst X;have h0:Hid (qnv G w0 H w tb lo (qad l) bs is Pn L (.returned (.func (.func 412) #[] #[bp w.heap.size])) j):=by
    obtain⟨ma,mc,f7⟩:∃ma mc,mv=.slice ma vs.length mc:=by
     rcases b1.own.2 with⟨q1,q2⟩|⟨g',u,b8,q1,_⟩
     ·exact⟨none,0,by rw[q2];exact q1⟩
     ·exact⟨_,_,q1⟩
    have i4:=(eE.1 b1.box).1;obtain⟨H2,k2,f8,hJ,hE,hB,hW,hF,h6,e9⟩:=t1.k.fixes (w.heap.size::mv.ownBlock.toList) λb hb=>by
     rcases List.mem_cons.1 hb with e|e
     ·subst e;exact⟨f6,b1.I,i4⟩
     ·have e:mv.ownBlock=some b:=by simpa using e
      have:=b1.own.lt b e;exact⟨by omega,b1.loose b e,this.2⟩
    have j5:Sp (λ_=>False) H1 j H2 j\/True:=.inr trivial;have i5:∀b,b∈w.heap.size::mv.ownBlock.toList->¬IxT j b:=by
     rintro b hb ⟨cs,tt,q1,q2⟩;rcases List.mem_cons.1 hb with e|e
     ·subst e;rw[b1.box]at q1;cases q1;exact absurd q2 (by decide)
     ·have e:mv.ownBlock=some b:=by simpa using e
      rcases b1.own.2 with⟨z1,_⟩|⟨g',h7,b8,z1,z2,z3,_⟩
      ·rw[z1]at e;cases e
      ·rw[z1]at e;obtain rfl:g'=b:=by simpa[Value.ownBlock]using e
       rw[z3]at q1;cases q1;exact absurd q2 (by decide)
    have t2:Tst G w0 H2 j tb lo bs (is++jd) e7:=by
     obtain⟨ba,bc,rv,h1,h2,h3,h4,h5⟩:=t1.box;have f9:∀{b cs tt},j.heap[b]? =some (.cells cs tt (0,0))->(tt=3\/tt=445)->b∉w.heap.size::mv.ownBlock.toList:=λh1 h2 hm=>i5 _ hm ⟨_,_,h1,h2⟩
     refine⟨k2,⟨ba,bc,rv,h1,h2.mono f8,h3,λg hg=>?_,λq hq=>?_⟩,(e9 tb (f9 h1 (.inr rfl))).trans t1.tI,t1.tl,t1.tlo,t1.lo,t1.bm⟩
     ·rcases h3.2 with⟨z1,_⟩|⟨g',h7,b8,z1,z2,z3,_⟩
      ·rw[z1]at hg;cases hg
      ·have i6:=hg;rw[z1]at hg;obtain rfl:g'=g:=by simpa[Value.ownBlock]using hg
       exact(e9 _ (f9 z3 (.inl rfl))).trans (h4 _ i6)
     ·obtain⟨r1,r2,⟨c9,r3,r4⟩,r5⟩:=h5 q hq;exact⟨(e9 _ (f9 r3 (.inl rfl))).trans r1,r2,⟨c9,r3,r4⟩,r5⟩
    have i7:∀b,b<w.heap.size->H2.I b=H1.I b:=λb hb=>e9 b λhm=>by
     rcases List.mem_cons.1 hm with e|e
     ·omega
     ·have e:mv.ownBlock=some b:=by simpa using e
      have:=(b1.own.lt b e).1;omega
    refine .inr ⟨H2,w.heap.size,jd,e7,Ld,rfl,by rw[Z];simp[qbj,qb9],by omega,t2,⟨⟨s1.ext.le.trans f8,hE.trans s1.ext.E,hB.trans s1.ext.B,fun {b} hb=>(i7 b hb).trans (s1.ext.I hb),hW.trans s1.ext.W,hF.trans s1.ext.F⟩,hJ.trans s1.J,s1.blk,s1.size,s1.same⟩,b7,λGf g0 i8=>?_⟩;have h8:=P Gf (f8.trans g0) i8;have i9:Gf.I w.heap.size=some (.cells #[.slice ma vs.length mc] 483 (0,0)):=g0.I (by rw[h6 _ (by simp),b1.box,f7]);refine qs3 Gf Ld vs h8 w.heap.size 483 vs.length mc ma i9 rfl (by rw[h8.len];simp at V;omega) λhp=>?_
    rcases b1.own.2 with⟨z1,z2⟩|⟨g',h7,b8,z1,z2,z3,z4,z5,z6,z7⟩
    ·omega
    ·rw[f7]at z1;cases z1;have M:Gf.I g'=some (.cells b8 404 (0,0)):=g0.I (by rw[h6 g' (by rw[f7];simp[Value.ownBlock]),z3]);refine⟨g',b8,404,rfl,M,λq v hv=>?_⟩;have hq:=(eL.1 hv).1;have e1:(b8.toList.take (vs.length*1))[q]? =vs[q]?:=by rw[z7]
     rw[List.getElem?_take_of_lt (by omega),hv]at e1;simpa using e1
   clear t1 s1 b1 P U O Z e8 V b7;go_wp2;go_ret;exact h0.out
  |cons d rr=>
   simp only[List.length_cons]at X;subst X;have a0:∀rd x w2,Below w0.heap.size w0 w2->rd=none->L=qb9 Ld jd (qe8 rd x)->qnv G w0 H w tb lo (qad l) bs is Pn L (.panicked (qan (qap 4))) w2:=λrd x w2 h1 h2 h3=>.inl ⟨rfl,h1,by rw[h3,h2];rfl⟩
   obtain⟨g,o,c9,rfl,M,T⟩:=U.mem (by omega);obtain⟨⟨yk,yn,y,z,ym,ya,yl,yc⟩,d0,f0⟩:=T 0 d (by simp);have a1:∀W:Wd,W.heap[g]? =some (.cells c9 134 (0,0))->S6 g o yk yn y z ym ya yl yc W:=λW hW=>by
    have h:=f0 W hW;simp only[Nat.zero_mul,Nat.add_zero]at h;exact⟨h 0 (by omega),h 1 (by omega),h 2 (by omega),h 3 (by omega),h 4 (by omega),h 5 (by omega)⟩
   obtain⟨y0,y1,y2,y3,y4,y5⟩:=a1 j (t1.k.imm M);have d1:Hid (S6 g o yk yn y z ym ya yl yc j):=⟨y0,y1,y2,y3,y4,y5⟩;have a2:Hid (S6 g o yk yn y z ym ya yl yc j.drew):=⟨y0,y1,y2,y3,y4,y5⟩;have f5:j.cell? ⟨w.heap.size,0,none⟩=some mv:=by simp only[World.cell?,b1.box];rfl
   have a3:rr.length+1<=cap':=by obtain⟨_,_,_,_,h,_⟩:=U;exact h
   have d2:qad (d::rr)=1+qaf d+qad rr:=by simp[qad]
   have a4:=O d (by simp);obtain⟨ma,mc,rfl⟩:∃ma mc,mv=.slice ma vs.length mc:=by
    rcases b1.own.2 with⟨q1,q2⟩|⟨g',u,b8,q1,_⟩
    ·exact⟨none,0,by rw[q2];exact q1⟩
    ·exact⟨_,_,q1⟩
   have g1:Hid (vs.length+1<=maxLen):=by
    have:vs.length+1<=maxLen:=by simp at V;unfold maxLen;omega
    exact this
   have g2:Hid ((vs.length+1)*8<=140737488355328):=by
    have:(vs.length+1)*8<=140737488355328:=by simp at V;omega
    exact this
   have N:DRow H1 (tlD g o cap' 1) rr.length (cap'-1) rr:=by simpa using U.drop 1 (by omega)
   have d3:∀w,(Instr.slice 132 (.slice (some ⟨g,o,none⟩) (rr.length+1) cap') (some (.int .i64 1)) none none).run prog w=.ok (.slice (tlD g o cap' 1) rr.length (cap'-1)) w:=λw=>qbz g o rr.length cap' a3 w
   have f1:Hid (L=qb9 Ld jd (qe8 (qcb (bs.map idB) deep d) (qbj (bs.map idB) deep rr))->∀S,Below j.heap.size j S->∀w',Lk S w'->Calls prog 365 #[bp tb,.agg #[.int .i64 yk,.int .i64 yn,.bool y,.string z,.int .i64 ym,.slice ya yl yc],.int .i64 (deep:Int)] w' λe w2=>((∃p,e=.panicked p)/\qnv G w0 H w tb lo (qad l) bs is Pn L e w2)\/(∃f u,e=.returned (.func (.func f) #[] u)/\Nx G w0 H w tb lo bs is Pn l deep L (.slice ma vs.length mc) vs.length vs (S6 g o yk yn y z ym ya yl yc) rr.length (.slice (tlD g o cap' 1) rr.length (cap'-1)) f u w2)):=λa5 S d4 w' g4=>by
    have b9:Below j.heap.size j w':=d4.trans (qo6 g4 d4.size);have hc:=HP.out d a4 G w0 H1 w' tb lo bs (is++jd) e7 ⟨yk,yn,y,z,ym,ya,yl,yc⟩ deep (t1.below b9) d0 (by omega) (by simp;omega);refine Calls.mono hc λe w2 h=>?_
    exact q2c (s1:=SpT.trans s1 (SpT.below b9)) (b1:=b1.step (SpT.below b9)) M a1 b7 f6 c8 P a5 N (λd h=>O d (by simp[h])) (by omega) (by simp at V;omega) (λw2 h1 h2=>a0 _ _ w2 h1 h2 a5) h
   have f2:Hid (∀q r2,rr=q::r2->L=qb9 Ld jd (qe8 (qzh (qcb (bs.map idB) (deep+1) d)) (qbj (bs.map idB) deep r2))->∀S,Below j.heap.size j S->∀w',Lk S w'->Calls prog 411 #[bp tb,.agg #[.int .i64 yk,.int .i64 yn,.bool y,.string z,.int .i64 ym,.slice ya yl yc],.int .i64 ((deep:Int)+1)] w' λe w2=>((∃p,e=.panicked p)/\qnv G w0 H w tb lo (qad l) bs is Pn L e w2)\/(∃f u,e=.returned (.func (.func f) #[] u)/\Nx G w0 H w tb lo bs is Pn l deep L (.slice ma vs.length mc) vs.length vs (S6 g o yk yn y z ym ya yl yc) r2.length (.slice (tlD g o cap' 2) r2.length (cap'-2)) f u w2)):=λq r2 j0 a5 S d4 w' g4=>by
    subst j0;have j9:qad (q::r2)=1+qaf q+qad r2:=by simp[qad]
    have f3:DRow H1 (tlD g o cap' 2) r2.length (cap'-2) r2:=by simpa using U.drop 2 (by simp)
    have b9:Below j.heap.size j w':=d4.trans (qo6 g4 d4.size);have hc:=HR.out d a4 G w0 H1 w' tb lo bs (is++jd) e7 ⟨yk,yn,y,z,ym,ya,yl,yc⟩ deep (t1.below b9) d0 (by omega) (by simp;omega);refine Calls.mono hc λe w2 h=>?_
    exact q2c (s1:=SpT.trans s1 (SpT.below b9)) (b1:=b1.step (SpT.below b9)) M a1 b7 f6 c8 P a5 f3 (λd h=>O d (by simp[h])) (by omega) (by simp at V;omega) (λw2 h1 h2=>a0 _ _ w2 h1 h2 a5) h
   have d5:=hZ Z;by_cases Y:∃q r2,rr=q::r2/\qam q=true
   ·obtain⟨q,r2,rfl,hq⟩:=Y;obtain⟨⟨zk,zn,c0,c1,zm,za,zl,zc⟩,d6,d7⟩:=T 1 q (by simp);have n:=d7 j (t1.k.imm M);simp only[Nat.one_mul]at n;have z0:j.cell? ⟨g,o+6,none⟩=some (.int .i64 zk):=n 0 (by omega);have z1:j.cell? ⟨g,o+6+1,none⟩=some (.int .i64 zn):=n 1 (by omega);have z2:j.cell? ⟨g,o+6+2,none⟩=some (.bool c0):=n 2 (by omega);have z3:j.cell? ⟨g,o+6+3,none⟩=some (.string c1):=n 3 (by omega);have z4:j.cell? ⟨g,o+6+4,none⟩=some (.int .i64 zm):=n 4 (by omega);have z5:j.cell? ⟨g,o+6+5,none⟩=some (.slice za zl zc):=n 5 (by omega);have d8:Hid (Calls prog 327 #[.agg #[.int .i64 zk,.int .i64 zn,.bool c0,.string c1,.int .i64 zm,.slice za zl zc],.string ⟨#[46,46,46]⟩] j λe w'=>e=.returned (.bool true)/\Below j.heap.size j w'):=Calls.mono (qdl zk zn c0 c1 zm za zl zc ⟨#[46,46,46]⟩ j) λe w' ⟨h1,h2⟩=>⟨by rw[h1,qd9 d6,hq],h2⟩
    have a6:=hZ (f2.out q r2 rfl (by rw[Z,qq0 _ _ _ _ _ hq]));have g5:r2.length+2<=cap':=by simp at a3;omega
    have j6:∀w,(Instr.slice 132 (.slice (some ⟨g,o,none⟩) (r2.length+2) cap') (some (.int .i64 2)) none none).run prog w=.ok (.slice (tlD g o cap' 2) r2.length (cap'-2)) w:=λw=>qfd g o r2.length cap' g5 w
    have g6:=hZ a1;have d9:=hZ (t1.k.imm M);have e0:=hZ b1.box;have h9:(0:Int)<(r2.length:Int)+2:=by omega
    have i1:(1:Int)<(r2.length:Int)+2:=by omega
    have e1:(q::r2).length+1=r2.length+2:=by simp
    rw[e1];clear f1 f2 Z t1 s1 b1 P U O e8 V b7 a1 T f0 a0 N d3 d6 d7 n d0 M d2 e1 a3 c8 hk hb c7 a4 d5 hq;go_wp2_with (go_at_call 327;refine d8.out.mono ?_;rintro e S ⟨rfl,e2⟩;have c2:=hZ e2;clear e2;refine Hid.out ?_)
    have e3:S.heap[g]? =some (.cells c9 134 (0,0)):=by rw[c2.out.block _ (eE.1 d9.out).1];exact d9.out
    have a7:S.heap[w.heap.size]? =some (.cells #[.slice ma vs.length mc] 483 (0,0)):=by rw[c2.out.block _ (eE.1 e0.out).1];exact e0.out
    have i2:S.cell? ⟨w.heap.size,0,none⟩=some (.slice ma vs.length mc):=by simp only[World.cell?,a7];rfl
    have hS:=g6.out S e3;have d1:=hZ hS;have a2:Hid (S6 g o yk yn y z ym ya yl yc S.drew):=hS;have A:=hZ (a6.out S c2.out);clear hS e3 a7 f5 y0 y1 y2 y3 y4 y5 z0 z1 z2 z3 z4 z5 a6 d8;refine hZ ?_;go_wp2_with (fail)
    rw[show Op.load 483 (Operand.tmp 7)=ldH 483 (Operand.tmp 7)from rfl];go_region_held2 (λw'=>w'.cell? ⟨g,o,none⟩=some (.int .i64 yk)/\w'.cell? ⟨g,o+1,none⟩=some (.int .i64 yn)/\w'.cell? ⟨g,o+2,none⟩=some (.bool y)/\w'.cell? ⟨g,o+3,none⟩=some (.string z)/\w'.cell? ⟨g,o+4,none⟩=some (.int .i64 ym)/\w'.cell? ⟨g,o+5,none⟩=some (.slice ya yl yc))
     (first|(with_reducible exact a2.out)|(with_reducible exact d1.out)|(with_reducible exact e4.out)|(with_reducible exact a8.out)|(with_reducible exact e5.out)|(with_reducible exact e6.out))
     (first|(go_at_call 411;refine(A.out _ (by exact⟨rfl,rfl,rfl,rfl⟩)).mono ?_;rintro e w2 (⟨⟨p,rfl⟩,hq⟩|⟨f,u,rfl,C⟩);(exact⟨rfl,hq⟩);have HN:=hZ C;have e4:=hZ C.s2;have a8:=hZ C.s2A;have m2:=qj2 C.box;have l2:=(eE.1 C.box).1;have i3:=(qac l2 (.cells #[.func (.func f) #[] u] 404)).trans m2;have Q:=hZ (C.own.alloc (.cells #[.func (.func f) #[] u] 404));have R:=hZ (qg8 f u w2);have a9:=hZ (qjf f u);have b0:=hZ (eT C.low (qaa w2 (.cells #[.func (.func f) #[] u] 404)).size);clear C)|(refine step_append_lies _ rfl _ _ 483 rfl (w.heap.size+1) 404 i0 .nilFunc 1 8 underlying483 hi c3 c4 c5 rfl (by decide) _ _ _ rfl Q.out ⟨w2.heap.size,0,none⟩ 1 1 [.func (.func f) #[] u] rfl rfl R.out a9.out (by decide) g1.out g2.out b0.out (w2.alloc (.cells #[.func (.func f) #[] u] 404)).heap.size rfl ?_;intro g3 b2 w4 s c D b3;obtain⟨q1,qf,b4,b5,K⟩:=HN.out.fin g3 b2 w4 s c D;have e5:=hZ b4;have e6:=hZ b5;have b6:=hZ K;clear s c D b3 b4 b5 K))
    all_goals(
     go_wp2;go_roundg r2.length
     case measure=>simp;try omega
     case rel=>exact b6.out _ (by first|with_reducible exact qcs _|with_reducible exact qct _))
   ·have f4:∀q r',rr=q::r'->qam q=false:=λq r' hq=>by
     cases hd:qam q with
     |false=>rfl
     |true=>exact absurd ⟨q,r',hq,hd⟩ Y
    have a6:=hZ (f1.out (by rw[Z,qq1 _ _ _ _ f4]));have g6:=hZ a1;have d9:=hZ (t1.k.imm M);have e0:=hZ b1.box;cases rr with
    |nil=>
     have A:=hZ (a6.out j (Below.refl _ _));have e1:([]:List Dt).length=0:=rfl;rw[e1]at d3 A|-;clear f1 f2 Z t1 s1 b1 P U O e8 V b7 a1 T f0 a0 N d0 M d2 a3 c8 hk hb c7 a4 d5 Y f4 a6 e1;go_wp2_with (fail)
     rw[show Op.load 483 (Operand.tmp 7)=ldH 483 (Operand.tmp 7)from rfl];go_region_held2 (λw'=>w'.cell? ⟨g,o,none⟩=some (.int .i64 yk)/\w'.cell? ⟨g,o+1,none⟩=some (.int .i64 yn)/\w'.cell? ⟨g,o+2,none⟩=some (.bool y)/\w'.cell? ⟨g,o+3,none⟩=some (.string z)/\w'.cell? ⟨g,o+4,none⟩=some (.int .i64 ym)/\w'.cell? ⟨g,o+5,none⟩=some (.slice ya yl yc))
      (first|(with_reducible exact a2.out)|(with_reducible exact d1.out)|(with_reducible exact e4.out)|(with_reducible exact a8.out)|(with_reducible exact e5.out)|(with_reducible exact e6.out))
      (first|(go_at_call 365;refine(A.out _ (by exact⟨rfl,rfl,rfl,rfl⟩)).mono ?_;rintro e w2 (⟨⟨p,rfl⟩,hq⟩|⟨f,u,rfl,C⟩);(exact⟨rfl,hq⟩);have HN:=hZ C;have e4:=hZ C.s2;have a8:=hZ C.s2A;have m2:=qj2 C.box;have l2:=(eE.1 C.box).1;have i3:=(qac l2 (.cells #[.func (.func f) #[] u] 404)).trans m2;have Q:=hZ (C.own.alloc (.cells #[.func (.func f) #[] u] 404));have R:=hZ (qg8 f u w2);have a9:=hZ (qjf f u);have b0:=hZ (eT C.low (qaa w2 (.cells #[.func (.func f) #[] u] 404)).size);clear C)|(refine step_append_lies _ rfl _ _ 483 rfl (w.heap.size+1) 404 i0 .nilFunc 1 8 underlying483 hi c3 c4 c5 rfl (by decide) _ _ _ rfl Q.out ⟨w2.heap.size,0,none⟩ 1 1 [.func (.func f) #[] u] rfl rfl R.out a9.out (by decide) g1.out g2.out b0.out (w2.alloc (.cells #[.func (.func f) #[] u] 404)).heap.size rfl ?_;intro g3 b2 w4 s c D b3;obtain⟨q1,qf,b4,b5,K⟩:=HN.out.fin g3 b2 w4 s c D;have e5:=hZ b4;have e6:=hZ b5;have b6:=hZ K;clear s c D b3 b4 b5 K))
     all_goals(
      go_wp2;go_roundg 0
      case measure=>simp;try omega
      case rel=>exact b6.out _ (by first|with_reducible exact qcs _|with_reducible exact qct _))
    |cons q r2=>
     obtain⟨⟨zk,zn,c0,c1,zm,za,zl,zc⟩,d6,d7⟩:=T 1 q (by simp);have n:=d7 j (t1.k.imm M);simp only[Nat.one_mul]at n;have z0:j.cell? ⟨g,o+6,none⟩=some (.int .i64 zk):=n 0 (by omega);have z1:j.cell? ⟨g,o+6+1,none⟩=some (.int .i64 zn):=n 1 (by omega);have z2:j.cell? ⟨g,o+6+2,none⟩=some (.bool c0):=n 2 (by omega);have z3:j.cell? ⟨g,o+6+3,none⟩=some (.string c1):=n 3 (by omega);have z4:j.cell? ⟨g,o+6+4,none⟩=some (.int .i64 zm):=n 4 (by omega);have z5:j.cell? ⟨g,o+6+5,none⟩=some (.slice za zl zc):=n 5 (by omega);have d8:Hid (Calls prog 327 #[.agg #[.int .i64 zk,.int .i64 zn,.bool c0,.string c1,.int .i64 zm,.slice za zl zc],.string ⟨#[46,46,46]⟩] j λe w'=>e=.returned (.bool false)/\Below j.heap.size j w'):=Calls.mono (qdl zk zn c0 c1 zm za zl zc ⟨#[46,46,46]⟩ j) λe w' ⟨h1,h2⟩=>⟨by rw[h1,qd9 d6,f4 q r2 rfl],h2⟩
     have h9:(0:Int)<(r2.length:Int)+1+1:=by omega
     have i1:(1:Int)<(r2.length:Int)+1+1:=by omega
     have j7:(0:Int)<(r2.length:Int)+2:=by omega
     have j8:(1:Int)<(r2.length:Int)+2:=by omega
     have e1:(q::r2).length=r2.length+1:=by simp
     rw[e1]at d3 a6|-;clear f1 f2 Z t1 s1 b1 P U O e8 V b7 a1 T f0 a0 N d6 d7 n d0 M d2 e1 a3 c8 hk hb c7 a4 d5 Y f4;go_wp2_with (go_at_call 327;refine d8.out.mono ?_;rintro e S ⟨rfl,e2⟩;have c2:=hZ e2;clear e2;refine Hid.out ?_)
     have e3:S.heap[g]? =some (.cells c9 134 (0,0)):=by rw[c2.out.block _ (eE.1 d9.out).1];exact d9.out
     have a7:S.heap[w.heap.size]? =some (.cells #[.slice ma vs.length mc] 483 (0,0)):=by rw[c2.out.block _ (eE.1 e0.out).1];exact e0.out
     have i2:S.cell? ⟨w.heap.size,0,none⟩=some (.slice ma vs.length mc):=by simp only[World.cell?,a7];rfl
     have hS:=g6.out S e3;have d1:=hZ hS;have a2:Hid (S6 g o yk yn y z ym ya yl yc S.drew):=hS;have A:=hZ (a6.out S c2.out);clear hS e3 a7 f5 y0 y1 y2 y3 y4 y5 z0 z1 z2 z3 z4 z5 a6 d8;refine hZ ?_;go_wp2_with (fail)
     rw[show Op.load 483 (Operand.tmp 7)=ldH 483 (Operand.tmp 7)from rfl];go_region_held2 (λw'=>w'.cell? ⟨g,o,none⟩=some (.int .i64 yk)/\w'.cell? ⟨g,o+1,none⟩=some (.int .i64 yn)/\w'.cell? ⟨g,o+2,none⟩=some (.bool y)/\w'.cell? ⟨g,o+3,none⟩=some (.string z)/\w'.cell? ⟨g,o+4,none⟩=some (.int .i64 ym)/\w'.cell? ⟨g,o+5,none⟩=some (.slice ya yl yc))
      (first|(with_reducible exact a2.out)|(with_reducible exact d1.out)|(with_reducible exact e4.out)|(with_reducible exact a8.out)|(with_reducible exact e5.out)|(with_reducible exact e6.out))
      (first|(go_at_call 365;refine(A.out _ (by exact⟨rfl,rfl,rfl,rfl⟩)).mono ?_;rintro e w2 (⟨⟨p,rfl⟩,hq⟩|⟨f,u,rfl,C⟩);(exact⟨rfl,hq⟩);have HN:=hZ C;have e4:=hZ C.s2;have a8:=hZ C.s2A;have m2:=qj2 C.box;have l2:=(eE.1 C.box).1;have i3:=(qac l2 (.cells #[.func (.func f) #[] u] 404)).trans m2;have Q:=hZ (C.own.alloc (.cells #[.func (.func f) #[] u] 404));have R:=hZ (qg8 f u w2);have a9:=hZ (qjf f u);have b0:=hZ (eT C.low (qaa w2 (.cells #[.func (.func f) #[] u] 404)).size);clear C)|(refine step_append_lies _ rfl _ _ 483 rfl (w.heap.size+1) 404 i0 .nilFunc 1 8 underlying483 hi c3 c4 c5 rfl (by decide) _ _ _ rfl Q.out ⟨w2.heap.size,0,none⟩ 1 1 [.func (.func f) #[] u] rfl rfl R.out a9.out (by decide) g1.out g2.out b0.out (w2.alloc (.cells #[.func (.func f) #[] u] 404)).heap.size rfl ?_;intro g3 b2 w4 s c D b3;obtain⟨q1,qf,b4,b5,K⟩:=HN.out.fin g3 b2 w4 s c D;have e5:=hZ b4;have e6:=hZ b5;have b6:=hZ K;clear s c D b3 b4 b5 K))
     all_goals(
      go_wp2;go_roundg (r2.length+1)
      case measure=>simp;try omega
      case rel=>exact b6.out _ (by first|with_reducible exact qcs _|with_reducible exact qct _))
theorem q16(d:Dt)(M:∀l,d=.list l->∀x,x∈l->qq6 x):qq6 d:=by
 intro G w0 H w tb lo bs is Pn e deep t s O P;obtain⟨D,u,c,f,y,z,A,B⟩:=e;rcases s.kind with⟨g,rfl⟩|⟨k,l,rfl⟩|⟨g,k,Q,R⟩
 ·have g:D=3:=g;subst g;refine qmj tb u c f y z A B deep w _ λw' i=>?_
  have E:=q0n (t.below i) u c f y z A B s deep (by omega);refine Calls.mono E ?_;rintro e w2 (h|⟨N,v,new,j,m,rfl,n,g,k,S,T,U⟩)
  ·exact .inl ⟨⟨_,h.1⟩,.inl h⟩
  ·exact .inr ⟨v,rfl,.inr ⟨N,v,new,j,m,rfl,n,g,by omega,S,SpT.trans (SpT.below i) T,U⟩⟩
 ·have k:D=4:=k;subst k;have o:=s.row;refine qk3 tb u c f y z A B deep w _ λw' i=>?_
  have E:=qss l (M l rfl) (λx V=>q4a x (M l rfl x V)) (t.below i) o (deep:=deep) (by simpa[qaf]using O) (by simp only[qaf]at P;omega);refine Calls.mono E ?_;rintro e w2 (⟨rfl,W,n⟩|⟨N,b,new,j,L,rfl,n,g,X,Y,Z,hm⟩)
  ·exact .inl ⟨⟨_,rfl⟩,.inl ⟨rfl,W,by simp only[qcb,n]⟩⟩
  ·refine .inr ⟨412,#[bp b],rfl,λw3 p=>?_⟩;obtain⟨F,q⟩:=X.fix (bl1 p) (eR _) (by rw[p.heap];exact eN _ _);have J:qcb (bs.map idB) deep (.list l)=some (⟨λtrs=>∀m,m∈L->m.ok trs,λmark trs=>(qbp L mark trs).map λl=>[.list l]⟩,new):=by simp only[qcb,n]
   refine .inr ⟨_,_,new,j,_,rfl,⟨_,_,rfl⟩,J,by simp only[qaf];omega,F,SpT.trans (SpT.below i) (SpT.trans Y (q _)),Z,λC a K=>?_⟩;exact q2r C _ _ _ w2.heap.size 404 (hm C ((q (λ_=>False)).ext.le.trans a) K) (a.I (Gh.add_at _ _ _))
 ·refine Calls.mono (qk4 tb D u c f y z A B deep w g k) ?_;rintro e w' ⟨rfl,i⟩;obtain⟨F,q⟩:=t.fix (bl1 i) (eR _) (by rw[i.heap];exact eN _ _);have r:qcb (bs.map idB) deep d=some (⟨λ_=>True,λ_ _=>some [d]⟩,[])/\qbu d=1:=by
   cases d with
   |sym t m=>exact absurd rfl (Q t m)
   |list l=>exact absurd rfl (R l)
   |num=>exact⟨rfl,rfl⟩
   |bool=>exact⟨rfl,rfl⟩
   |str=>exact⟨rfl,rfl⟩
  refine .inr ⟨_,_,[],Pn,_,rfl,⟨_,_,rfl⟩,r.1,by simp,by simpa using F,q _,λ_ h=>h,λC a _=>?_⟩;exact q2s C d _ w.heap.size 134 (s.mono ((q (λ_=>False)).ext.le.trans a)) r.2 (a.I (Gh.add_at _ _ _))
theorem qnz:∀n:Nat,∀d:Dt,SizeOf.sizeOf d<n->qq6 d
 |0=>λd h=>by omega
 |n+1=>λd h=>q16 d λl a x b=>qnz n x (by subst a;have:=List.sizeOf_lt_of_mem b;simp at h;omega)
theorem qvy(d:Dt):qq6 d:=qnz (SizeOf.sizeOf d+1) d (Nat.lt_succ_self _)
theorem q4z:(prog.info? 9).map (λi=>(i.zero,i.size,i.bytes))=some (some (.string ⟨#[]⟩),1,16):=by kernel_rfl
theorem qp4{l:List Dt}{a:List Bs}:qa2 l=some a->a.length=l.length:=by
 induction l generalizing a with
 |nil=>intro h;cases h;rfl
 |cons d r b=>
  intro h;cases d with
  |sym t m=>
   simp only[qa2]at h;split at h
   ·cases h
   ·simp only[Option.map_eq_some_iff]at h;obtain⟨js,c,rfl⟩:=h;simp[b c]
  |_=>simp[qa2]at h
theorem qfk(a b:List Dt):qa2 (a++b)=(qa2 a).bind λx=>(qa2 b).map λy=>x++y:=by
 induction a with
 |nil=>simp[qa2]
 |cons d r c=>
  cases d with
  |sym t m=>
   simp only[List.cons_append,qa2,c];split
   ·rfl
   ·cases qa2 r with
    |none=>rfl
    |some x=>cases qa2 b <;> simp
  |_=>simp[qa2]
theorem qmu{a:List Bs}{t:Bs}{m:Int}(b:l[k]? =some (.sym t m))(c:qa2 (l.take k)=some a):qa2 (l.take (k+1))=if t==qbv then none else some (a++[t]):=by
 have d:l.take (k+1)=l.take k++[.sym t m]:=by rw[List.take_add_one,b];rfl
 rw[d,qfk,c];simp only[Option.bind_some,qa2];split <;> simp
theorem qhg(h:qa2 (l.take k)=none):qa2 l=none:=by
 rw[<-List.take_append_drop k l,qfk,h];rfl
theorem qp3{l:List Dt}{k:Nat}{d:Dt}(a:l[k]? =some d)(b:∀t m,d≠.sym t m):qa2 l=none:=by
 have c:l.take (k+1)=l.take k++[d]:=by rw[List.take_add_one,a];rfl
 refine qhg (k:=k+1) ?_;rw[c,qfk];have:qa2 [d]=none:=by
  cases d with
  |sym t m=>exact absurd rfl (b t m)
  |_=>rfl
 rw[this];cases qa2 (l.take k) <;> rfl
theorem qgm(d:Int)(b:Bool)(a:BA)(c:Int)(f:OA)(g h:Nat)(w:Wd):Calls prog 296 #[.agg #[.int .i64 3,.int .i64 d,.bool b,.string a,.int .i64 c,.slice f g h]] w λe w'=>e=.returned (.agg #[.string a,.int .i64 c])/\Below w.heap.size w w':=qa8 d b a c f g h w
theorem qgn(t:BA)(m:Int)(w:Wd):(Instr.field 382 (.agg #[.string t,.int .i64 m]) 0).run prog w=.ok (.string t) w:=by
 kernel_rfl
def q6t(l:List Dt)(w:Wd)(e:En)(w':Wd):Prop:=Below w.heap.size w w'/\match qa2 l with
 |some ls=>∃na nc ss,e=.returned (.slice na ss.length nc)/\qbq ss=ls/\w'.ownsRow w.heap.size 9 1 (.slice na ss.length nc) ss.length (ss.map .string)
 |none=>e=.panicked (qan (qap 4))
theorem qmv(a d:Int)(b:Bool)(c:BA)(f:Int)(g:OA)(h i:Nat)(w:Wd)(j:a≠4):Calls prog 328 #[.agg #[.int .i64 a,.int .i64 d,.bool b,.string c,.int .i64 f,.slice g h i]] w λe w'=>e=.panicked (qan (qap 4))/\Below w.heap.size w w':=by
 have k:(a==4)=false:=by simpa using j
 go_enter func328,ntmps328
 go_wp2_with (first|(go_at_call 290;refine(qav _).mono ?_;rintro e w4 ⟨rfl,o,rfl⟩))
 exact⟨rfl,rfl,(qaa _ _).alloc (by simp) _⟩
theorem qz5(l:List Dt)(xn:Int)(b8:Bool)(b9:BA)(xm:Int)(xa:OA)(xl xc:Nat)(w:Wd)(q:DRow H xa xl xc l)(K:∀{b:Nat} {o:Obj},H.I b=some o->w.heap[b]? =some o):
  Calls prog 328 #[.agg #[.int .i64 4,.int .i64 xn,.bool b8,.string b9,.int .i64 xm,.slice xa xl xc]] w (q6t l w):=by
 obtain⟨i0,hi,a0,a1,a2⟩:=info_parts q4z;have L:=q.len;have d4:xl<=30000:=by obtain⟨_,_,_,_,_,h,_⟩:=q;omega
 have M:=hZ L;have a3:=hZ q;have N:Hid (∀{b:Nat} {o:Obj},H.I b=some o->w.heap[b]? =some o):=K;clear L q K;go_enter func328,ntmps328
 go_wp2_with (first|(go_at_call 290;refine(qak _).mono ?_;rintro e w4 ⟨rfl,R⟩;obtain rfl:=R.symm))
 go_loopw [14,3] (λc s wr=>∃(k:Nat) (Y:OA) (Z:Nat) (ss:List BA),k<=xl/\c=.int .i64 (k:Int)/\ss.length=k/\s=.slice Y k Z/\qa2 (l.take k)=some (qbq ss)/\wr.ownsRow w.heap.size 9 1 (.slice Y k Z) k (ss.map .string)/\Below w.heap.size w wr) (λc _ _=>xl-(intOf c).toNat)
 case atStart=>exact⟨0,none,0,[],Nat.zero_le _,rfl,rfl,rfl,rfl,⟨rfl,.inl ⟨rfl,rfl⟩⟩,qaa _ _⟩
 case round=>
  obtain⟨k,Y,Z,ss,hk,rfl,a4,rfl,z,O,a5⟩:=hrel;have S:=hZ a4;have a6:=hZ z;have r:=hZ O;have P:=hZ a5;clear a4 z O a5;by_cases c7:k<xl
  ·have c8:k<l.length:=by rw[<-M.out];exact c7
   obtain⟨d,hd⟩:∃d,l[k]? =some d:=⟨_,eG c8⟩;obtain⟨g,o,d5,rfl,T,Q⟩:=a3.out.mem (by omega);obtain⟨⟨yk,yn,G,a,U,ya,v,x⟩,a7,a8⟩:=Q k d hd;have c9:g<w.heap.size:=(eE.1 (N.out T)).1;have cell:=a8 wr (by rw[P.out.block _ c9];exact N.out T);have c0:wr.cell? ⟨g,o+k*6,none⟩=some (.int .i64 yk):=cell 0 (by omega);have c1:wr.cell? ⟨g,o+k*6+1,none⟩=some (.int .i64 yn):=cell 1 (by omega);have c2:wr.cell? ⟨g,o+k*6+2,none⟩=some (.bool G):=cell 2 (by omega);have c3:wr.cell? ⟨g,o+k*6+3,none⟩=some (.string a):=cell 3 (by omega);have c4:wr.cell? ⟨g,o+k*6+4,none⟩=some (.int .i64 U):=cell 4 (by omega);have c5:wr.cell? ⟨g,o+k*6+5,none⟩=some (.slice ya v x):=cell 5 (by omega);have d3:(k:Int)<(xl:Int):=by omega
   have B:=a7.kind;clear cell a8 Q T a7;have n:(yk=3/\d=.sym a.data.toList U)\/(yk≠3/\∀t m,d≠.sym t m):=by
    rcases B with⟨V,h⟩|⟨h4,l',h⟩|⟨V,h4,hs,_⟩
    ·exact .inl ⟨V,h⟩
    ·exact .inr ⟨λe=>by have h4:yk=4:=h4;omega,λt m=>by rw[h];exact nofun⟩
    ·exact .inr ⟨V,hs⟩
   clear B;rcases n with⟨V,n⟩|⟨V,n⟩
   ·obtain rfl:yk=3:=V;rw[n]at hd;have J:=hZ (qmu hd a6.out);clear hd n;by_cases f:a.data.toList=qbv
    ·obtain rfl:a=⟨#[46,46,46]⟩:=qbd (by rw[f];rfl);have d0:Hid (qa2 l=none):=qhg (k:=k+1) (by rw[J.out,if_pos (by rw[f];simp)]);have d1:=λw=>qgn ⟨#[46,46,46]⟩ U w
     clear f J;go_wp2_with (first|(go_at_call 296;refine(qgm yn G _ U ya v x _).mono ?_;rintro e w2 ⟨rfl,W⟩;have C:=hZ W;clear W)|(go_at_call 290;refine(qav _).mono ?_;rintro e w4 ⟨rfl,o,rfl⟩))
     have D:=P.out.trans (((qaa _ _).trans (C.out.mono (by simp))).mono P.out.size);refine⟨rfl,D.trans ((qaa _ _).mono D.size),?_⟩;rw[d0.out]
    ·have d6:(a.toList== [46,46,46])=false:=by rw[qgt];simpa[qbv]using f
     have a9:Hid (qa2 (l.take (k+1))=some (qbq (ss++[a]))):=by
      have:=J.out;rw[if_neg (by simpa using f)]at this;have h2:qa2 (l.take (k+1))=some (qbq (ss++[a])):=by rw[this];simp[qbq]
      exact h2
     have d1:=λw=>qgn a U w
     clear f J;go_wp2_with (first|(go_at_call 296;refine(qgm yn G a U ya v x _).mono ?_;rintro e w2 ⟨rfl,W⟩;have C:=hZ W;clear W)|(go_at_call 290;refine(qak _).mono ?_;rintro e w4 ⟨rfl,R⟩;obtain rfl:=R.symm;refine Hid.out ?_))
     have D:Below w.heap.size w w2:=P.out.trans (((qaa _ _).trans (C.out.mono (by simp))).mono P.out.size);have E:w2.ownsRow w.heap.size 9 1 (.slice Y k Z) k (ss.map .string):=by
      refine qb7 r.out λg hg=>?_
      have:=(r.out.lt g hg).2;rw[C.out.block _ (by simp;omega),eH _ _ _ this]
     have i:=hZ D;have p:=hZ E;clear D E C r;refine hZ ?_;go_wp2_with (first|(at_builtin;refine wpList_append_lies _ rfl _ _ 32 rfl w.heap.size 9 i0 (.string ⟨#[]⟩) 1 16 underlying32 hi a0 a1 a2 rfl (by decide) _ _ _ rfl (p.out.alloc _) ⟨w2.heap.size,0,none⟩ 1 1 [.string a] rfl rfl ?c1 ?c2 (by decide) ?c3 ?c4 ?c5 (w2.heap.size+1) ?c6 ?_))
     case c1=>exact World.news_of_block (cs:=#[.string a]) (by have:=eN w2 (.cells #[.string a] 9);simpa using this)
     case c2=>intro u hu;simp at hu;rcases hu with rfl;rfl
     case c3=>unfold maxLen;omega
     case c4=>omega
     case c5=>have:=i.out.size;simp;omega
     case c6=>simp
     intro g4 b0 w4 F y b1 b2;refine Hid.out ?_;have A:w2.grownBy w4 (Value.slice Y k Z).ownBlock:=qcg y;have b3:Below w.heap.size w w4:=⟨A.os.trans i.out.os,A.tape.trans i.out.tape,A.output.trans i.out.output,eT i.out.size A.size,λj hj=>by
      rw[A.block j (eW hj i.out.size) (λe=>by have:=(p.out.lt j e.symm).1;omega)];exact i.out.block j hj⟩
     have d2:=hZ b3;have X:=hZ F;clear F y b1 b2 A b3 i p;refine hZ ?_;go_wp2;go_roundw
     case rel=>exact⟨k+1,some ⟨g4,0,none⟩,b0,ss++[a],by omega,by go_num,by simp[S.out],rfl,a9.out,by simpa using X.out,d2.out⟩
     case measure=>simp[intOf];omega
   ·have b4:=hZ (qp3 hd n);clear hd n;go_wp2_with (first|(go_at_call 296;refine(qe5 yk yn G a U ya v x _ V).mono ?_;rintro e w2 ⟨rfl,W⟩))
    refine⟨rfl,P.out.trans (((qaa _ _).trans (W.mono (by simp))).mono P.out.size),?_⟩;rw[b4.out]
  ·have b5:k=xl:=by omega
   have b6:l.take k=l:=by rw[b5,M.out];simp
   have z:=a6.out;rw[b6]at z;have b7:=hZ z;have d7:¬(k:Int)<(xl:Int):=by omega
   clear b5 b6 z;go_wp2;go_ret;refine⟨P.out,?_⟩;rw[b7.out];exact⟨Y,Z,ss,by simp[S.out],rfl,by simpa[S.out]using r.out⟩
@[reducible] def S6w(g o:Nat)(yk yn:Int)(ytr:Bool)(ytx:BA)(ym:Int)(ya:OA)(yl yc:Nat)(w:Wd):Prop:=w.cell? ⟨g,o,none⟩=some (.int .i64 yk)/\w.cell? ⟨g,o+1,none⟩=some (.int .i64 yn)/\w.cell? ⟨g,o+2,none⟩=some (.bool ytr)/\w.cell? ⟨g,o+3,none⟩=some (.string ytx)/\w.cell? ⟨g,o+4,none⟩=some (.int .i64 ym)/\w.cell? ⟨g,o+5,none⟩=some (.slice ya yl yc)
theorem S6w.al{o:Nat}{c d:Int}{a:Bool}{b:BA}{e:Int}{f:OA}{i j:Nat}(h:S6w g o c d a b e f i j w)(z:Obj):S6w g o c d a b e f i j (w.alloc z):=⟨qat h.1,qat h.2.1,qat h.2.2.1,qat h.2.2.2.1,qat h.2.2.2.2.1,qat h.2.2.2.2.2⟩
theorem qh5(c d:Int)(a:Bool)(b:BA)(f:Int)(g:OA)(h:Nat)(i:Vu)(w:Wd):Calls prog 329 #[.agg #[.int .i64 c,.int .i64 d,.bool a,.string b,.int .i64 f,.slice g 0 h],i] w λe w'=>e=.panicked (qan (qap 4))/\Below w.heap.size w w':=by
 go_enter func329,ntmps329
 go_wp2_with (first|(go_at_call 290;refine(qav _).mono ?_;rintro e w4 ⟨rfl,j,rfl⟩))
 exact⟨rfl,rfl,((qaa _ _).alloc (by simp) _).alloc (by simp;omega) _⟩
theorem qh4(h i:Int)(a:Bool)(b:BA)(j:Int)(g o n c:Nat)(v:Vu)(w:Wd)(k m:Int)(d:Bool)(f:BA)(p:Int)(q:OA)(r s:Nat)(t:S6w g o k m d f p q r s w)(x:k≠3):Calls prog 329 #[.agg #[.int .i64 h,.int .i64 i,.bool a,.string b,.int .i64 j,.slice (some ⟨g,o,none⟩) (n+1) c],v] w λe w'=>e=.panicked (qan (qap 4))/\Below w.heap.size w w':=by
 obtain⟨A,B,C,D,E,F⟩:=(t.al (.cells #[.int .i64 h,.int .i64 i,.bool a,.string b,.int .i64 j,.slice (some ⟨g,o,none⟩) (n+1) c] 134)).al (.cells #[.slice none 0 0,.slice none 0 0,.nilFunc] 402);have y:(0:Int)<(n:Int)+1:=by omega
 clear t;go_enter func329,ntmps329
 go_wp2_with (first|(go_at_call 290;refine(qak _).mono ?_;rintro e w4 ⟨rfl,l⟩;obtain rfl:=l.symm)|(go_at_call 296;refine(qe5 k m d f p q r s _ x).mono ?_;rintro e w2 ⟨rfl,z⟩))
 have u:Below w.heap.size w _:=(qaa w (.cells #[.int .i64 h,.int .i64 i,.bool a,.string b,.int .i64 j,.slice (some ⟨g,o,none⟩) (n+1) c] 134)).alloc (by simp) (.cells #[.slice none 0 0,.slice none 0 0,.nilFunc] 402);exact⟨rfl,rfl,u.trans (z.mono u.size)⟩
theorem qg1(f h:Int)(a:Bool)(b:BA)(i:Int)(g o n c:Nat)(v:Vu)(w:Wd)(l:Int)(d:Bool)(j:Int)(m:OA)(p q:Nat)(r:S6w g o 3 l d ⟨#[46,46,46]⟩ j m p q w):Calls prog 329 #[.agg #[.int .i64 f,.int .i64 h,.bool a,.string b,.int .i64 i,.slice (some ⟨g,o,none⟩) (n+1) c],v] w λe w'=>e=.panicked (qan (qap 4))/\Below w.heap.size w w':=by
 obtain⟨A,B,C,D,E,F⟩:=(r.al (.cells #[.int .i64 f,.int .i64 h,.bool a,.string b,.int .i64 i,.slice (some ⟨g,o,none⟩) (n+1) c] 134)).al (.cells #[.slice none 0 0,.slice none 0 0,.nilFunc] 402);have x:(0:Int)<(n:Int)+1:=by omega
 have y:=λw=>qgn ⟨#[46,46,46]⟩ j w
 clear r;go_enter func329,ntmps329
 go_wp2_with (first|(go_at_call 290;refine(qak _).mono ?_;rintro e w4 ⟨rfl,k⟩;obtain rfl:=k.symm)|(go_at_call 296;refine(qgm l d _ j m p q _).mono ?_;rintro e w2 ⟨rfl,s⟩;have z:=hZ s;clear s;refine Hid.out ?_))
 refine hZ ?_;go_wp2_with (first|(go_at_call 290;refine(qav _).mono ?_;rintro e w4 ⟨rfl,G,rfl⟩))
 have t:Below w.heap.size w _:=(qaa w (.cells #[.int .i64 f,.int .i64 h,.bool a,.string b,.int .i64 i,.slice (some ⟨g,o,none⟩) (n+1) c] 134)).alloc (by simp) (.cells #[.slice none 0 0,.slice none 0 0,.nilFunc] 402);have u:=t.trans (z.out.mono t.size);exact⟨rfl,rfl,u.alloc u.size _⟩
def q3z(w:Wd)(pb rb:Nat)(lv bv fv:Vu):Wd:=(((w.setCell ⟨pb,2,none⟩ fv).setCell ⟨rb,0,none⟩ lv).setCell ⟨rb,1,none⟩ bv).setCell ⟨rb,2,none⟩ fv
theorem qpv(r s:Int)(a:Bool)(b:BA)(t:Int)(g o n c:Nat)(K:OA)(L lc:Nat)(w:Wd)(O:Int)(A:Bool)(u:BA)(M:Int)(P:OA)(R S:Nat)(T:S6w g o 3 O A u M P R S w)(hd:(u.toList== [46,46,46])=false)(hn:n+1<=c)(Q:En->Wd->Prop)
  (U:∀v,Below w.heap.size w v->w.heap.size+1<v.heap.size->v.heap[w.heap.size+1]? =some (.cells #[.slice none 0 0,.slice none 0 0,.nilFunc] 402 (0,0))->∀w',Lk (v.alloc (.cells #[.slice K L lc,.slice none 0 0,.nilFunc] 402)) w'->Calls prog 364 #[bp v.heap.size,.slice (tlD g o c 1) n (c-1),.int .i64 0] w' λe w2=>((∃p,e=.panicked p)/\Q e w2)\/(∃f m h i kc j k l,e=.returned (.func (.func f) #[] m)/\w2.heap[v.heap.size]? =some (.cells #[.slice h i kc,.slice j k l,.nilFunc] 402 (0,0))/\w2.heap[w.heap.size+1]? =some (.cells #[.slice none 0 0,.slice none 0 0,.nilFunc] 402 (0,0))/\∀w3,Lk (q3z w2 v.heap.size (w.heap.size+1) (.slice h i kc) (.slice j k l) (.func (.func f) #[] m)) w3->Q (.returned (.agg #[.slice h i kc,.slice j k l,.func (.func f) #[] m])) w3)):
  Calls prog 329 #[.agg #[.int .i64 r,.int .i64 s,.bool a,.string b,.int .i64 t,.slice (some ⟨g,o,none⟩) (n+1) c],.slice K L lc] w Q:=by
 obtain⟨y0,y1,y2,y3,y4,y5⟩:=(T.al (.cells #[.int .i64 r,.int .i64 s,.bool a,.string b,.int .i64 t,.slice (some ⟨g,o,none⟩) (n+1) c] 134)).al (.cells #[.slice none 0 0,.slice none 0 0,.nilFunc] 402);have a1:(0:Int)<(n:Int)+1:=by omega
 have a2:=λw=>qgn u M w
 have a3:∀w,(Instr.slice 132 (.slice (some ⟨g,o,none⟩) (n+1) c) (some (.int .i64 1)) none none).run prog w=.ok (.slice (tlD g o c 1) n (c-1)) w:=λw=>qbz g o n c hn w
 have V:Below w.heap.size w _:=(qaa w (.cells #[.int .i64 r,.int .i64 s,.bool a,.string b,.int .i64 t,.slice (some ⟨g,o,none⟩) (n+1) c] 134)).alloc (by simp) (.cells #[.slice none 0 0,.slice none 0 0,.nilFunc] 402);have B:((w.alloc (.cells #[.int .i64 r,.int .i64 s,.bool a,.string b,.int .i64 t,.slice (some ⟨g,o,none⟩) (n+1) c] 134)).alloc (.cells #[.slice none 0 0,.slice none 0 0,.nilFunc] 402)).heap[w.heap.size+1]? =some (.cells #[.slice none 0 0,.slice none 0 0,.nilFunc] 402 (0,0)):=by
  have:=eN (w.alloc (.cells #[.int .i64 r,.int .i64 s,.bool a,.string b,.int .i64 t,.slice (some ⟨g,o,none⟩) (n+1) c] 134)) (.cells #[.slice none 0 0,.slice none 0 0,.nilFunc] 402);simpa using this
 have C:((w.alloc (.cells #[.int .i64 r,.int .i64 s,.bool a,.string b,.int .i64 t,.slice (some ⟨g,o,none⟩) (n+1) c] 134)).alloc (.cells #[.slice none 0 0,.slice none 0 0,.nilFunc] 402)).cell? ⟨w.heap.size,5,none⟩=some (.slice (some ⟨g,o,none⟩) (n+1) c):=qat (by
  have:=eN w (.cells #[.int .i64 r,.int .i64 s,.bool a,.string b,.int .i64 t,.slice (some ⟨g,o,none⟩) (n+1) c] 134);simp only[World.cell?,this];rfl)
 have W:=hZ U;have x:=hZ V;have D:=hZ B;have E:=hZ C;clear T U V B C;go_enter func329,ntmps329
 go_wp2_with (first|(go_at_call 290;refine(qak _).mono ?_;rintro e w4 ⟨rfl,y⟩;obtain rfl:=y.symm)|(go_at_call 296;refine(qgm O A _ M P R S _).mono ?_;rintro e w2 ⟨rfl,X⟩;have F:=hZ X;clear X;refine Hid.out ?_))
 have G:=x.out.trans (F.out.mono x.out.size);have z:w.heap.size+1<w2.heap.size:=by have:=F.out.size;simp at this;omega
 have b1:w2.heap[w.heap.size+1]? =some (.cells #[.slice none 0 0,.slice none 0 0,.nilFunc] 402 (0,0)):=by rw[F.out.block _ (by simp)];exact D.out
 have z0:w2.cell? ⟨w.heap.size,5,none⟩=some (.slice (some ⟨g,o,none⟩) (n+1) c):=by rw[F.out.cell (p:=⟨w.heap.size,5,none⟩) (by simp;omega)];exact E.out
 have a4:(w2.alloc (.cells #[.slice K L lc,.slice none 0 0,.nilFunc] 402)).cell? ⟨w.heap.size,5,none⟩=some (.slice (some ⟨g,o,none⟩) (n+1) c):=qat z0;have H:=hZ (W.out w2 G z b1);have I:=hZ z;clear y0 y1 y2 y3 y4 y5 G z b1 W F D E x;refine hZ ?_;go_wp2_with (first|(go_at_call 290;refine(qak _).mono ?_;rintro e w4 ⟨rfl,y⟩;obtain rfl:=y.symm)|(go_at_call 364;refine(H.out _ (by exact⟨rfl,rfl,rfl,rfl⟩)).mono ?_;rintro e w4 (⟨⟨p,rfl⟩,hq⟩|⟨f,m,h,i,kc,j,k,l,rfl,Y,Z,q3⟩);(exact⟨rfl,hq⟩);have q:=hZ Y;have d:=hZ Z;have N:=hZ q3;clear Y Z q3;refine Hid.out ?_))
 have p0:w4.cell? ⟨w2.heap.size,0,none⟩=some (.slice h i kc):=by simp only[World.cell?,q.out];rfl
 have p1:w4.cell? ⟨w2.heap.size,1,none⟩=some (.slice j k l):=by simp only[World.cell?,q.out];rfl
 have p2:w4.cell? ⟨w2.heap.size,2,none⟩=some .nilFunc:=by simp only[World.cell?,q.out];rfl
 have pf:∀o,w4.frozen? ⟨w2.heap.size,o,none⟩=false:=λo=>by simp[World.frozen?,q.out]
 have r0:w4.cell? ⟨w.heap.size+1,0,none⟩=some (.slice none 0 0):=by simp only[World.cell?,d.out];rfl
 have r1:w4.cell? ⟨w.heap.size+1,1,none⟩=some (.slice none 0 0):=by simp only[World.cell?,d.out];rfl
 have r2:w4.cell? ⟨w.heap.size+1,2,none⟩=some .nilFunc:=by simp only[World.cell?,d.out];rfl
 have rf:∀o,w4.frozen? ⟨w.heap.size+1,o,none⟩=false:=λo=>by simp[World.frozen?,d.out]
 have hne:w2.heap.size≠w.heap.size+1:=by have:=I.out;omega
 have a0:w.heap.size+1≠w2.heap.size:=by have:=I.out;omega
 have J:Hid ((q3z w4 w2.heap.size (w.heap.size+1) (.slice h i kc) (.slice j k l) (.func (.func f) #[] m)).heap[w.heap.size+1]? =some (.cells #[.slice h i kc,.slice j k l,.func (.func f) #[] m] 402 (0,0))):=by
  have:(q3z w4 w2.heap.size (w.heap.size+1) (.slice h i kc) (.slice j k l) (.func (.func f) #[] m)).heap[w.heap.size+1]? =some (.cells #[.slice h i kc,.slice j k l,.func (.func f) #[] m] 402 (0,0)):=by
   simp[q3z,World.setCell,Array.getElem?_modify,d.out,hne]
  exact this
 clear H;refine hZ ?_;go_wp2;refine bodyPost_ret (results_cell_row (p:=4) (ty:=402) (by kernel_rfl) _ _ (w.heap.size+1) 402 #[.slice h i kc,.slice j k l,.func (.func f) #[] m] (0,0) _ rfl J.out underlying402 rfl (by kernel_rfl)) rfl ?_;exact N.out _ (qcs _)
theorem ql5(d f:Int)(a:Bool)(b:BA)(g:Int)(h:OA)(i j:Nat)(k:OA)(l m:Nat)(w:Wd)(Q:En->Wd->Prop)
  (n:∀w',Lk ((w.alloc (.cells #[.int .i64 d,.int .i64 f,.bool a,.string b,.int .i64 g,.slice h i j] 134)).alloc (.cells #[.slice k l m,.slice none 0 0] 445)) w'->Calls prog 365 #[bp (w.heap.size+1),.agg #[.int .i64 d,.int .i64 f,.bool a,.string b,.int .i64 g,.slice h i j],.int .i64 0] w' λe w2=>((∃p,e=.panicked p)/\Q e w2)\/(∃v,e=.returned v/\Q (.returned v) w2)):
  Calls prog 330 #[.agg #[.int .i64 d,.int .i64 f,.bool a,.string b,.int .i64 g,.slice h i j],.slice k l m] w Q:=by
 have o:=hZ n;clear n;go_enter func330,ntmps330
 go_wp2_with (go_at_call 365;refine(o.out _ (by exact⟨rfl,rfl,rfl,rfl⟩)).mono ?_;rintro e w4 (⟨⟨p,rfl⟩,c⟩|⟨v,rfl,c⟩);(exact⟨rfl,c⟩);have q:=hZ c;clear c)
 exact q.out
theorem Wk.sp(k:Wk G w0 H w):Sp (λ_=>False) G w0 H w:=⟨k.ext,k.J,λa _=>k.bel.block _ a,k.bel.size,k.bel.os,k.bel.tape,k.bel.output⟩
theorem Wk.trans{K:Gh}{v:Wd}(a:Wk G w0 H w)(b:Wk H w K v):Wk G w0 K v:=a.step b.sp nofun λ_ h=>b.imm h
def qc5(lits:List Bs):Dt->Option (List (Sc.Id×Nat))
 | .list (.sym t _::p)=>if t==qbv then none else qa1 lits 0 [] p
 |_=>none
theorem qdp(a:List Bs)(t:Bs)(m:Int)(p:List Dt):qc5 a (.list (.sym t m::p))=if t==qbv then none else qa1 a 0 [] p:=rfl
theorem DRep.len0{H:Gh}{d:Dt}{e:Dl}(h:DRep H d e)(a:∀l,d≠.list l):e.len=0:=by
 cases h with
 |num _ _ _ _ h=>exact h.1
 |bool _ _ h=>exact h.1
 |str _ _ _ h=>exact h.1
 |sym _ _ _ h=>exact h
 |nil _ _ h=>exact h
 |list=>exact absurd rfl (a _)
theorem qns(a:List Bs)(d:Dt)(r:List Dt)(h:∀t m,d≠.sym t m):qc5 a (.list (d::r))=none:=by
 cases d with
 |sym t m=>exact absurd rfl (h t m)
 |_=>rfl
theorem qgd(a:List Bs)(d:Dt)(h:∀l,d≠.list l):qc5 a d=none:=by
 cases d with
 |list l=>exact absurd rfl (h l)
 |_=>rfl
def q6r(H:Gh)(w:Wd)(d:Dt)(ss:List BA)(e:En)(w':Wd):Prop:=
 (e=.panicked (qan (qap 4))/\Below w.heap.size w w'/\qc5 (qbq ss) d=none)\/
 (∃H' t m p bks ka kl kc ba bc fv,d=.list (.sym t m::p)/\qc5 (qbq ss) d=some (bks.map idB)/\e=.returned (.agg #[.slice ka kl kc,.slice ba bks.length bc,fv])/\Wk H w H' w'/\BkI H' ba bks/\Mtc H' 0 bks.length LV (λsc x=>qau (qbq ss) sc p x) fv/\bks.length<=qaf d)
theorem qx4{e:Vu}{bs:List Bk}(h:w.ownsRow lo 481 3 e bs.length (qby bs))(hI:∀g,e.ownBlock=some g->H.I g=w.heap[g]?):∃j n,e=.slice j bs.length n/\BkI H j bs:=by
 rcases h.2 with⟨d,o⟩|⟨g,cap,a,d,l,p,x,y,q,f⟩
 ·exact⟨none,0,by rw[d,o],λi b l=>by have:=(eL.1 l).1;omega⟩
 ·refine⟨_,cap,d,λi b c=>⟨g,a,481,rfl,by rw[hI g (by rw[d];rfl)];exact p,?_⟩⟩;have z:=(eL.1 c).1;obtain⟨r,s,t⟩:=qfz bs i b c;have cc:∀k v,k<bs.length*3->(qby bs)[k]? =some v->a[k]? =some v:=λk v u m=>by
   rw[<-f,List.getElem?_take_of_lt u]at m;simpa using m
  exact⟨cc _ _ (by omega) r,cc _ _ (by omega) s,cc _ _ (by omega) t⟩
theorem qx9{a:OA}{len cap:Nat}(s:DRow H a len cap l)(c:∀{b:Nat} {o:Obj},H.I b=some o->w.heap[b]? =some o){d:Dt}{r:List Dt}(t:l=d::r):∃g o,a=some ⟨g,o,none⟩/\∃e:Dl,DRep H d e/\S6w g o e.k e.n e.tr e.tx e.m e.a e.len e.cap w:=by
 subst t;have f:=s.len;simp only[List.length_cons]at f;obtain⟨g,o,u,rfl,j,i⟩:=s.mem (by omega);obtain⟨e,p,q⟩:=i 0 d (by simp);have h:=q w (c j);simp only[Nat.zero_mul,Nat.add_zero]at h;exact⟨g,o,rfl,e,p,h 0 (by omega),h 1 (by omega),h 2 (by omega),h 3 (by omega),h 4 (by omega),h 5 (by omega)⟩
theorem qzp{m0:Mc}(i:Inv H S m0 w)(d:Dt)(e:Dl)(hd:DRep H d e)(A:OA)(lc:Nat)(ss:List BA)(hs:StrI H A ss)(a2:ss.length<=1000000)(b6:qaf d<=1000000000000):
  Calls prog 329 #[.agg e.cells,.slice A ss.length lc] w (q6r H w d ss):=by
 obtain⟨M,N,q,s,O,xa,P,xc⟩:=e;have Q:∀{b:Nat} {o:Obj},H.I b=some o->w.heap[b]? =some o:=λh=>i.imm h
 have u:P=0->qc5 (qbq ss) d=none->Calls prog 329 #[.agg (Dl.cells ⟨M,N,q,s,O,xa,P,xc⟩),.slice A ss.length lc] w (q6r H w d ss):=λR y=>by
  subst R;refine Calls.mono (qh5 M N q s O xa xc (.slice A ss.length lc) w) ?_;rintro e w' ⟨rfl,a3⟩;exact .inl ⟨rfl,a3,y⟩
 rcases hd.kind with⟨z,rfl⟩|⟨T,l,rfl⟩|⟨z,T,U,hl⟩
 ·have R:P=0:=hd.len0 nofun;exact u R (qgd _ _ nofun)
 ·have n:=hd.row;have x:P=l.length:=n.len;cases l with
  |nil=>exact u x rfl
  |cons d1 r=>
   simp only[List.length_cons]at x;subst x;obtain⟨g,o,D,⟨yk,yn,E,j,K,ya,yl,yc⟩,a4,hy⟩:=qx9 n (w:=w) Q rfl;have D:xa=some ⟨g,o,none⟩:=D;subst D;have V:∀{e:En} {w':Wd},qc5 (qbq ss) (.list (d1::r))=none->(e=.panicked (qan (qap 4))/\Below w.heap.size w w')->q6r H w (.list (d1::r)) ss e w':=λy h=>.inl ⟨h.1,h.2,y⟩
   have U:(yk=3/\d1=.sym j.data.toList K)\/(yk≠3/\∀t m,d1≠.sym t m):=by
    rcases a4.kind with⟨z,h⟩|⟨T,l',h⟩|⟨z,T,hs,_⟩
    ·exact .inl ⟨z,h⟩
    ·exact .inr ⟨λe=>by have T:yk=4:=T;omega,λt m=>by rw[h];exact nofun⟩
    ·exact .inr ⟨z,hs⟩
   rcases U with⟨z,F⟩|⟨z,F⟩
   ·subst z;subst F;by_cases c:j.data.toList=qbv
    ·obtain rfl:j=⟨#[46,46,46]⟩:=qbd (by rw[c];rfl);exact Calls.mono (qg1 M N q s O g o r.length xc (.slice A ss.length lc) w yn E K ya yl yc hy) λe w' h=>V (by rw[qdp,if_pos (by rw[c];simp)]) h
    ·have a5:(j.toList== [46,46,46])=false:=by rw[qgt];simpa[qbv]using c
     have W:r.length+1<=xc:=by obtain⟨_,_,_,_,h,_⟩:=n;exact h
     have G:DRow H (tlD g o xc 1) r.length (xc-1) r:=by simpa using n.drop 1 (by simp)
     have X:qc5 (qbq ss) (.list (.sym j.data.toList K::r))=qa1 (qbq ss) 0 [] r:=by rw[qdp,if_neg (by simpa using c)]
     have Y:qaf (.list (.sym j.data.toList K::r))=1+qad r:=by simp[qaf,qad]
     refine qpv M N q s O g o r.length xc A ss.length lc w yn E j K ya yl yc hy a5 W _ λB p Z a6 w' hw=>?_
     have ip:=i.below p;have a7:=bl1 hw;have ps:Pst H B H w' B.heap.size (B.heap.size+1) ss []:=⟨(Wk.start ip).below a7,⟨A,lc,.slice none 0 0,by rw[hw.heap];exact eN _ _,hs,⟨rfl,.inl ⟨rfl,rfl⟩⟩,nofun⟩,ip.fresh (eR _),eR _,Nat.lt_succ_self _,by rw[hw.heap];simp,a2⟩;refine Calls.mono (list_any r H B H w' B.heap.size (B.heap.size+1) ss [] (tlD g o xc 1) r.length (xc-1) 0 ps G (by omega) (by simp;omega)) ?_;rintro e w2 (⟨rfl,h1,h2⟩|⟨L,v,new,rfl,⟨f,cp,rfl⟩,h2,z,p2,b7,hm⟩)
     ·refine .inl ⟨⟨_,rfl⟩,.inl ⟨rfl,p.trans (h1.mono p.size),?_⟩⟩;rw[X];simpa using h2
     ·obtain⟨ka,kc,bv,b1,b2,b3,b4⟩:=p2.box;have k2:Wk H w L w2:=((Wk.start i).below p).trans p2.k;have a8:L.I (w.heap.size+1)=none:=by rw[p2.k.ext.I Z];exact i.fresh (by omega)
      obtain⟨ba,bc,J,_⟩:=qx4 (H:={L with I:=λg=>w2.heap[g]?}) b3 λ_ _=>rfl
      simp only[List.nil_append]at J b3 h2;refine .inr ⟨f,cp,ka,ss.length,kc,ba,new.length,bc,rfl,by rw[b1,J],by rw[p2.k.bel.block _ Z];exact a6,λw3 a9=>?_⟩;have s3:Sp (λk=>k=B.heap.size\/k=w.heap.size+1) L w2 L w3:=by
       refine Sp.trans ?_ (Sp.lk a9);exact((Sp.set (a:=⟨B.heap.size,2,none⟩) (.inl rfl)).trans (Sp.set (a:=⟨w.heap.size+1,0,none⟩) (.inr rfl))).trans ((Sp.set (a:=⟨w.heap.size+1,1,none⟩) (.inr rfl)).trans (Sp.set (a:=⟨w.heap.size+1,2,none⟩) (.inr rfl)))
      have k3:Wk H w L w3:=k2.go s3 λb y=>by
       rcases y with rfl|rfl
       ·exact⟨p.size,p2.pI⟩
       ·exact⟨by omega,a8⟩
      have a0:∀g,bv.ownBlock=some g->w3.heap[g]? =w2.heap[g]?:=λg hg=>by
       have:=b3.lt g hg;exact s3.blk this.2 (by omega)
      obtain⟨H3,k4,a1,_,_,_,_,_,b0,_⟩:=k3.fixes bv.ownBlock.toList λb y=>by
       have y:bv.ownBlock=some b:=by simpa using y
       have:=b3.lt b y;have hz:=s3.size;have:=p.size;exact⟨by omega,b4 b y,by omega⟩
      obtain⟨b8,b9,C,b5⟩:=qx4 (H:=H3) b3 λg hg=>by rw[b0 g (by simpa using hg),a0 g hg]
      rw[J]at C;cases C;exact .inr ⟨H3,_,_,r,new,ka,ss.length,kc,ba,bc,_,rfl,by rw[X];simpa using h2,rfl,k4,b5,by simpa using hm.mono a1,by rw[Y];omega⟩
   ·exact Calls.mono (qh4 M N q s O g o r.length xc (.slice A ss.length lc) w yk yn E j K ya yl yc hy z) λe w' h=>V (qns _ _ _ F) h
 ·have R:P=0:=hd.len0 hl;exact u R (qgd _ _ hl)
def TmP(H:Gh)(w:Wd)(bl:List (Sc.Id×Nat))(d:Dt)(e:En)(w':Wd):Prop:=
 (e=.panicked (qan (qap 4))/\Below w.heap.size w w'/\qcb bl 0 d=none)\/
 (∃H' f cp new m,e=.returned (.func (.func f) #[] cp)/\qcb bl 0 d=some (m,new)/\Wk H w H' w'/\Mks H' m.ok m.mks (.func (.func f) #[] cp))
theorem qu5{m0:Mc}(i:Inv H S m0 w)(d:Dt)(e:Dl)(O:DRep H d e)(x:OA)(A:Nat)(a:List Bk)(B:BkI H x a)(C:a.length<=1000000000000)(P:qaf d+1<=1000000000000):
  Calls prog 330 #[.agg e.cells,.slice x a.length A] w (TmP H w (a.map idB) d):=by
 obtain⟨l,m,c,h,n,o,q,r⟩:=e;refine ql5 l m c h n o q r x a.length A w _ λw' y=>?_
 have j:Below w.heap.size w (w.alloc (.cells #[.int .i64 l,.int .i64 m,.bool c,.string h,.int .i64 n,.slice o q r] 134)):=qaa _ _;have D:=i.below j;have s:(w.alloc (.cells #[.int .i64 l,.int .i64 m,.bool c,.string h,.int .i64 n,.slice o q r] 134)).heap.size=w.heap.size+1:=by simp
 generalize Q:w.alloc (.cells #[.int .i64 l,.int .i64 m,.bool c,.string h,.int .i64 n,.slice o q r] 134)=wp at y j D s;rw[<-s];have E:=bl1 y;have R:Tst H wp H w' wp.heap.size (wp.heap.size+1) a [] []:=⟨(Wk.start D).below E,⟨x,A,.slice none 0 0,by rw[y.heap];exact eN _ _,B,⟨rfl,.inl ⟨rfl,rfl⟩⟩,nofun,nofun⟩,D.fresh (eR _),eR _,Nat.lt_succ_self _,by rw[y.heap];simp,C⟩;refine Calls.mono (qvy d H wp H w' wp.heap.size (wp.heap.size+1) a [] [] ⟨l,m,c,h,n,o,q,r⟩ 0 R O (by omega) (by simp;omega)) ?_;rintro e w2 (⟨rfl,T,F⟩|⟨U,v,new,Pn,V,rfl,⟨f,W,rfl⟩,F,h3,J,s2,hP,X⟩)
 ·exact .inl ⟨⟨_,rfl⟩,.inl ⟨rfl,j.trans (T.mono j.size),F⟩⟩
 ·have Y:Wk H w U w2:=((Wk.start i).below j).trans J.k;obtain⟨Z,a0,rv,q1,q2,q3,q4,K⟩:=J.box;obtain⟨L,k3,t,_,_,_,_,_,G,_⟩:=Y.fixes (Pn.map (·.g)) λb B=>by
   obtain⟨p,z,rfl⟩:=List.mem_map.1 B;obtain⟨M,r2,⟨u,I,N⟩,r5⟩:=K p z;exact⟨by omega,M,(eE.1 I).1⟩
  refine .inr ⟨_,rfl,.inr ⟨L,f,W,new,V,rfl,F,k3,X L t λp z=>?_⟩⟩;obtain⟨M,r2,⟨u,I,N⟩,r5⟩:=K p z;exact⟨u,3,by rw[G _ (List.mem_map.2 ⟨p,z,rfl⟩)];exact I,N⟩
end Go.Proofs.YtldaocpojcfljaaGreatDoor
