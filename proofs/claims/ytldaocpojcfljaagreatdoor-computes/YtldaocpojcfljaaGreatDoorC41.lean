import Derived.Test.YtldaocpojcfljaaGreatDoorC40
set_option maxRecDepth 100000
set_option maxHeartbeats 4000000
namespace Go.Proofs.YtldaocpojcfljaaGreatDoor
open Tryz hiding parts
open Go.RowKit Go.Shelf
section
open Sc
def DefK (mb:Nat) (nm:ByteArray) (P:World→Prop) (e:Ending) (w1:World):Prop:=∃b,e=.returned (bp b)∧∀w2,Lk w1 w2→Calls prog 139 #[bp mb,.string nm,.iface 281 (bp b)] w2 fun e w3=>e=.returned (.tuple #[])∧P w3
def DefKq (mb q:Nat) (nm:ByteArray) (P:World→Prop) (e:Ending) (w1:World):Prop:=∃b,e=.returned (bp b)∧w1.cell? ⟨q,0,none⟩=some (bp mb)∧∀w2,Lk w1 w2→Calls prog 139 #[bp mb,.string nm,.iface 281 (bp b)] w2 fun e w3=>e=.returned (.tuple #[])∧w3.cell? ⟨q,0,none⟩=some (bp mb)∧P w3
theorem qpr (mb:Nat) (w:World) (Q:Ending→World→Prop) (St:Nat→World→Prop) (h0:St 0 w)
  (s0:∀w',St 0 w'→Calls prog 177 #[.func (.func 178) #[] #[]] w' (DefK mb ⟨#[43]⟩ (St 1)))
  (s1:∀w',St 1 w'→Calls prog 177 #[.func (.func 179) #[] #[]] w' (DefK mb ⟨#[45]⟩ (St 2)))
  (s2:∀w',St 2 w'→Calls prog 177 #[.func (.func 180) #[] #[]] w' (DefK mb ⟨#[42]⟩ (St 3)))
  (s3:∀w',St 3 w'→Calls prog 177 #[.func (.func 181) #[] #[]] w' (DefK mb ⟨#[113,117,111,116,105,101,110,116]⟩ (St 4)))
  (s4:∀w',St 4 w'→Calls prog 177 #[.func (.func 182) #[] #[]] w' (DefK mb ⟨#[114,101,109,97,105,110,100,101,114]⟩ (St 5)))
  (s5:∀w',St 5 w'→Calls prog 177 #[.func (.func 183) #[] #[]] w' (DefK mb ⟨#[61]⟩ (St 6)))
  (s6:∀w',St 6 w'→Calls prog 177 #[.func (.func 184) #[] #[]] w' (DefK mb ⟨#[60]⟩ (St 7)))
  (hQ:∀w',St 7 w'→Q (.returned (.tuple #[])) w'):Calls prog 132 #[bp mb] w Q:=by
 have HQ:=hZ hQ
 have X0:=hZ h0
 have S0:=hZ s0
 have S1:=hZ s1
 have S2:=hZ s2
 have S3:=hZ s3
 have S4:=hZ s4
 have S5:=hZ s5
 have S6:=hZ s6
 clear hQ h0 s0 s1 s2 s3 s4 s5 s6
 go_enter func132,ntmps132
 go_wp2_with (first|(go_at_call 177;refine(S0.out _ X0.out).mono ?_;rintro e w1 ⟨b0,rfl,hk⟩;have K0:=hZ hk;clear hk)|(go_at_call 139;refine(K0.out _ (by exact⟨rfl,rfl,rfl,rfl⟩)).mono ?_;rintro e v0 ⟨rfl,hk⟩;have X1:=hZ hk;clear hk;refine Hid.out ?_))
 refine hZ ?_
 go_wp2_with (first|(go_at_call 177;refine(S1.out _ X1.out).mono ?_;rintro e w1 ⟨b1,rfl,hk⟩;have K1:=hZ hk;clear hk)|(go_at_call 139;refine(K1.out _ (by exact⟨rfl,rfl,rfl,rfl⟩)).mono ?_;rintro e v1 ⟨rfl,hk⟩;have X2:=hZ hk;clear hk;refine Hid.out ?_))
 refine hZ ?_
 go_wp2_with (first|(go_at_call 177;refine(S2.out _ X2.out).mono ?_;rintro e w1 ⟨b2,rfl,hk⟩;have K2:=hZ hk;clear hk)|(go_at_call 139;refine(K2.out _ (by exact⟨rfl,rfl,rfl,rfl⟩)).mono ?_;rintro e v2 ⟨rfl,hk⟩;have X3:=hZ hk;clear hk;refine Hid.out ?_))
 refine hZ ?_
 go_wp2_with (first|(go_at_call 177;refine(S3.out _ X3.out).mono ?_;rintro e w1 ⟨b3,rfl,hk⟩;have K3:=hZ hk;clear hk)|(go_at_call 139;refine(K3.out _ (by exact⟨rfl,rfl,rfl,rfl⟩)).mono ?_;rintro e v3 ⟨rfl,hk⟩;have X4:=hZ hk;clear hk;refine Hid.out ?_))
 refine hZ ?_
 go_wp2_with (first|(go_at_call 177;refine(S4.out _ X4.out).mono ?_;rintro e w1 ⟨b4,rfl,hk⟩;have K4:=hZ hk;clear hk)|(go_at_call 139;refine(K4.out _ (by exact⟨rfl,rfl,rfl,rfl⟩)).mono ?_;rintro e v4 ⟨rfl,hk⟩;have X5:=hZ hk;clear hk;refine Hid.out ?_))
 refine hZ ?_
 go_wp2_with (first|(go_at_call 177;refine(S5.out _ X5.out).mono ?_;rintro e w1 ⟨b5,rfl,hk⟩;have K5:=hZ hk;clear hk)|(go_at_call 139;refine(K5.out _ (by exact⟨rfl,rfl,rfl,rfl⟩)).mono ?_;rintro e v5 ⟨rfl,hk⟩;have X6:=hZ hk;clear hk;refine Hid.out ?_))
 refine hZ ?_
 go_wp2_with (first|(go_at_call 177;refine(S6.out _ X6.out).mono ?_;rintro e w1 ⟨b6,rfl,hk⟩;have K6:=hZ hk;clear hk)|(go_at_call 139;refine(K6.out _ (by exact⟨rfl,rfl,rfl,rfl⟩)).mono ?_;rintro e v6 ⟨rfl,hk⟩;have X7:=hZ hk;clear hk;refine Hid.out ?_))
 refine hZ ?_
 go_wp2
 go_end0
 exact HQ.out _ X7.out
theorem qpq (mb:Nat) (w:World) (Q:Ending→World→Prop) (St:Nat→World→Prop) (h0:St 0 w)
  (s0:∀w',St 0 w'→Calls prog 185 #[] w' (DefK mb ⟨#[110,117,108,108,63]⟩ (St 1)))
  (s1:∀w',St 1 w'→Calls prog 186 #[] w' (DefK mb ⟨#[112,97,105,114,63]⟩ (St 2)))
  (s2:∀w',St 2 w'→Calls prog 187 #[] w' (DefK mb ⟨#[105,110,116,101,103,101,114,63]⟩ (St 3)))
  (s3:∀w',St 3 w'→Calls prog 188 #[] w' (DefK mb ⟨#[115,121,109,98,111,108,63]⟩ (St 4)))
  (s4:∀w',St 4 w'→Calls prog 189 #[] w' (DefK mb ⟨#[115,116,114,105,110,103,63]⟩ (St 5)))
  (s5:∀w',St 5 w'→Calls prog 190 #[] w' (DefK mb ⟨#[98,111,111,108,101,97,110,63]⟩ (St 6)))
  (s6:∀w',St 6 w'→Calls prog 191 #[] w' (DefK mb ⟨#[112,114,111,99,101,100,117,114,101,63]⟩ (St 7)))
  (s7:∀w',St 7 w'→Calls prog 192 #[] w' (DefK mb ⟨#[115,101,97,108,63]⟩ (St 8)))
  (hQ:∀w',St 8 w'→Q (.returned (.tuple #[])) w'):Calls prog 133 #[bp mb] w Q:=by
 have HQ:=hZ hQ
 have X0:=hZ h0
 have S0:=hZ s0
 have S1:=hZ s1
 have S2:=hZ s2
 have S3:=hZ s3
 have S4:=hZ s4
 have S5:=hZ s5
 have S6:=hZ s6
 have S7:=hZ s7
 clear hQ h0 s0 s1 s2 s3 s4 s5 s6 s7
 go_enter func133,ntmps133
 go_wp2_with (first|(go_at_call 185;refine(S0.out _ X0.out).mono ?_;rintro e w1 ⟨b0,rfl,hk⟩;have K0:=hZ hk;clear hk)|(go_at_call 139;refine(K0.out _ (by exact⟨rfl,rfl,rfl,rfl⟩)).mono ?_;rintro e v0 ⟨rfl,hk⟩;have X1:=hZ hk;clear hk;refine Hid.out ?_))
 refine hZ ?_
 go_wp2_with (first|(go_at_call 186;refine(S1.out _ X1.out).mono ?_;rintro e w1 ⟨b1,rfl,hk⟩;have K1:=hZ hk;clear hk)|(go_at_call 139;refine(K1.out _ (by exact⟨rfl,rfl,rfl,rfl⟩)).mono ?_;rintro e v1 ⟨rfl,hk⟩;have X2:=hZ hk;clear hk;refine Hid.out ?_))
 refine hZ ?_
 go_wp2_with (first|(go_at_call 187;refine(S2.out _ X2.out).mono ?_;rintro e w1 ⟨b2,rfl,hk⟩;have K2:=hZ hk;clear hk)|(go_at_call 139;refine(K2.out _ (by exact⟨rfl,rfl,rfl,rfl⟩)).mono ?_;rintro e v2 ⟨rfl,hk⟩;have X3:=hZ hk;clear hk;refine Hid.out ?_))
 refine hZ ?_
 go_wp2_with (first|(go_at_call 188;refine(S3.out _ X3.out).mono ?_;rintro e w1 ⟨b3,rfl,hk⟩;have K3:=hZ hk;clear hk)|(go_at_call 139;refine(K3.out _ (by exact⟨rfl,rfl,rfl,rfl⟩)).mono ?_;rintro e v3 ⟨rfl,hk⟩;have X4:=hZ hk;clear hk;refine Hid.out ?_))
 refine hZ ?_
 go_wp2_with (first|(go_at_call 189;refine(S4.out _ X4.out).mono ?_;rintro e w1 ⟨b4,rfl,hk⟩;have K4:=hZ hk;clear hk)|(go_at_call 139;refine(K4.out _ (by exact⟨rfl,rfl,rfl,rfl⟩)).mono ?_;rintro e v4 ⟨rfl,hk⟩;have X5:=hZ hk;clear hk;refine Hid.out ?_))
 refine hZ ?_
 go_wp2_with (first|(go_at_call 190;refine(S5.out _ X5.out).mono ?_;rintro e w1 ⟨b5,rfl,hk⟩;have K5:=hZ hk;clear hk)|(go_at_call 139;refine(K5.out _ (by exact⟨rfl,rfl,rfl,rfl⟩)).mono ?_;rintro e v5 ⟨rfl,hk⟩;have X6:=hZ hk;clear hk;refine Hid.out ?_))
 refine hZ ?_
 go_wp2_with (first|(go_at_call 191;refine(S6.out _ X6.out).mono ?_;rintro e w1 ⟨b6,rfl,hk⟩;have K6:=hZ hk;clear hk)|(go_at_call 139;refine(K6.out _ (by exact⟨rfl,rfl,rfl,rfl⟩)).mono ?_;rintro e v6 ⟨rfl,hk⟩;have X7:=hZ hk;clear hk;refine Hid.out ?_))
 refine hZ ?_
 go_wp2_with (first|(go_at_call 192;refine(S7.out _ X7.out).mono ?_;rintro e w1 ⟨b7,rfl,hk⟩;have K7:=hZ hk;clear hk)|(go_at_call 139;refine(K7.out _ (by exact⟨rfl,rfl,rfl,rfl⟩)).mono ?_;rintro e v7 ⟨rfl,hk⟩;have X8:=hZ hk;clear hk;refine Hid.out ?_))
 refine hZ ?_
 go_wp2
 go_end0
 exact HQ.out _ X8.out
theorem qpp (mb:Nat) (w:World) (Q:Ending→World→Prop) (St:Nat→World→Prop) (h0:∀w',Lk (w.alloc (.cells #[bp mb] 107)) w'→St 0 w') (hlk:∀k w1 w2,St k w1→Lk w1 w2→St k w2)
  (s0:∀w',St 0 w'→Calls prog 193 #[.func (.func 194) #[] #[]] w' (DefKq mb w.heap.size ⟨#[110,111,116]⟩ (St 1)))
  (s1:∀w',St 1 w'→Calls prog 195 #[.func (.func 196) #[] #[]] w' (DefKq mb w.heap.size ⟨#[101,113,63]⟩ (St 2)))
  (s2:∀w',St 2 w'→Calls prog 195 #[.func (.func 197) #[] #[bp w.heap.size]] w' (DefKq mb w.heap.size ⟨#[101,113,117,97,108,63]⟩ (St 3)))
  (hQ:∀w',St 3 w'→Q (.returned (.tuple #[])) w'):Calls prog 134 #[bp mb] w Q:=by
 have hmf:∀(fn:Fn) (first cap:Array Value) (w:World),(Instr.makeFunc fn first cap).run prog w=.ok (.func fn first cap) w:=fun _ _ _ _=>rfl
 have HQ:=hZ hQ
 have HLk:=hZ hlk
 have X0:=hZ (h0 _ (by exact⟨rfl,rfl,rfl,rfl⟩))
 have S0:=hZ s0
 have S1:=hZ s1
 have S2:=hZ s2
 have hnw:=heap_alloc_new w (.cells #[bp mb] 107)
 have d0:(w.alloc (.cells #[bp mb] 107)).cell? ⟨w.heap.size,0,none⟩=some (bp mb):=by simp only [World.cell?,hnw];rfl
 clear hQ hlk h0 hnw s0 s1 s2
 go_enter func134,ntmps134
 go_wp2_with (fail)
 generalize w.alloc (.cells #[bp mb] 107)=v0 at X0 d0⊢
 go_region_held2 (fun w'=>w'.cell? ⟨w.heap.size,0,none⟩=some (bp mb)) (first|(exact d0)|(exact HSa0.out)|(exact HSb0.out)|go_keep)
  (first
   |(go_at_call 193;refine(S0.out _ (HLk.out _ _ _ X0.out (by exact⟨rfl,rfl,rfl,rfl⟩))).mono ?_;rintro e w1 ⟨b0,rfl,hc,hk⟩;have HSa0:=hZ hc;have K0:=hZ hk;clear hc hk)
   |(go_at_call 139;refine(K0.out _ (by exact⟨rfl,rfl,rfl,rfl⟩)).mono ?_;rintro e v1 ⟨rfl,hc,hk⟩;have HSb0:=hZ hc;have X1:=hZ hk;clear hc hk))
 have d1:=HSb0.out
 go_wp2_with (fail)
 go_region_held2 (fun w'=>w'.cell? ⟨w.heap.size,0,none⟩=some (bp mb)) (first|(exact d1)|(exact HSa1.out)|(exact HSb1.out)|go_keep)
  (first
   |(go_at_call 195;refine(S1.out _ (HLk.out _ _ _ X1.out (by exact⟨rfl,rfl,rfl,rfl⟩))).mono ?_;rintro e w1 ⟨b1,rfl,hc,hk⟩;have HSa1:=hZ hc;have K1:=hZ hk;clear hc hk)
   |(go_at_call 139;refine(K1.out _ (by exact⟨rfl,rfl,rfl,rfl⟩)).mono ?_;rintro e v2 ⟨rfl,hc,hk⟩;have HSb1:=hZ hc;have X2:=hZ hk;clear hc hk))
 have d2:=HSb1.out
 go_wp2_with (fail)
 go_region_held2 (fun w'=>w'.cell? ⟨w.heap.size,0,none⟩=some (bp mb)) (first|(exact d2)|(exact HSa2.out)|(exact HSb2.out)|go_keep)
  (first
   |(go_at_call 195;refine(S2.out _ (HLk.out _ _ _ X2.out (by exact⟨rfl,rfl,rfl,rfl⟩))).mono ?_;rintro e w1 ⟨b2,rfl,hc,hk⟩;have HSa2:=hZ hc;have K2:=hZ hk;clear hc hk)
   |(go_at_call 139;refine(K2.out _ (by exact⟨rfl,rfl,rfl,rfl⟩)).mono ?_;rintro e v3 ⟨rfl,hc,hk⟩;have HSb2:=hZ hc;have X3:=hZ hk;clear hc hk))
 have d3:=HSb2.out
 all_goals go_wp2
 all_goals go_end0
 all_goals exact HQ.out _ X3.out
theorem qpo (mb:Nat) (w:World) (Q:Ending→World→Prop) (St:Nat→World→Prop) (h0:∀w',Lk (w.alloc (.cells #[bp mb] 107)) w'→St 0 w') (hlk:∀k w1 w2,St k w1→Lk w1 w2→St k w2)
  (s0:∀w',St 0 w'→Calls prog 195 #[.func (.func 199) #[] #[bp w.heap.size]] w' (DefKq mb w.heap.size ⟨#[99,111,110,115]⟩ (St 1)))
  (s1:∀w',St 1 w'→Calls prog 201 #[.func (.func 202) #[] #[]] w' (DefKq mb w.heap.size ⟨#[99,97,114]⟩ (St 2)))
  (s2:∀w',St 2 w'→Calls prog 201 #[.func (.func 203) #[] #[]] w' (DefKq mb w.heap.size ⟨#[99,100,114]⟩ (St 3)))
  (hQ:∀w',St 3 w'→Q (.returned (.tuple #[])) w'):Calls prog 135 #[bp mb] w Q:=by
 have hmf:∀(fn:Fn) (first cap:Array Value) (w:World),(Instr.makeFunc fn first cap).run prog w=.ok (.func fn first cap) w:=fun _ _ _ _=>rfl
 have HQ:=hZ hQ
 have HLk:=hZ hlk
 have X0:=hZ (h0 _ (by exact⟨rfl,rfl,rfl,rfl⟩))
 have S0:=hZ s0
 have S1:=hZ s1
 have S2:=hZ s2
 have hnw:=heap_alloc_new w (.cells #[bp mb] 107)
 have d0:(w.alloc (.cells #[bp mb] 107)).cell? ⟨w.heap.size,0,none⟩=some (bp mb):=by simp only [World.cell?,hnw];rfl
 clear hQ hlk h0 hnw s0 s1 s2
 go_enter func135,ntmps135
 go_wp2_with (fail)
 generalize w.alloc (.cells #[bp mb] 107)=v0 at X0 d0⊢
 go_region_held2 (fun w'=>w'.cell? ⟨w.heap.size,0,none⟩=some (bp mb)) (first|(exact d0)|(exact HSa0.out)|(exact HSb0.out)|go_keep)
  (first
   |(go_at_call 195;refine(S0.out _ (HLk.out _ _ _ X0.out (by exact⟨rfl,rfl,rfl,rfl⟩))).mono ?_;rintro e w1 ⟨b0,rfl,hc,hk⟩;have HSa0:=hZ hc;have K0:=hZ hk;clear hc hk)
   |(go_at_call 139;refine(K0.out _ (by exact⟨rfl,rfl,rfl,rfl⟩)).mono ?_;rintro e v1 ⟨rfl,hc,hk⟩;have HSb0:=hZ hc;have X1:=hZ hk;clear hc hk))
 have d1:=HSb0.out
 go_wp2_with (fail)
 go_region_held2 (fun w'=>w'.cell? ⟨w.heap.size,0,none⟩=some (bp mb)) (first|(exact d1)|(exact HSa1.out)|(exact HSb1.out)|go_keep)
  (first
   |(go_at_call 201;refine(S1.out _ (HLk.out _ _ _ X1.out (by exact⟨rfl,rfl,rfl,rfl⟩))).mono ?_;rintro e w1 ⟨b1,rfl,hc,hk⟩;have HSa1:=hZ hc;have K1:=hZ hk;clear hc hk)
   |(go_at_call 139;refine(K1.out _ (by exact⟨rfl,rfl,rfl,rfl⟩)).mono ?_;rintro e v2 ⟨rfl,hc,hk⟩;have HSb1:=hZ hc;have X2:=hZ hk;clear hc hk))
 have d2:=HSb1.out
 go_wp2_with (fail)
 go_region_held2 (fun w'=>w'.cell? ⟨w.heap.size,0,none⟩=some (bp mb)) (first|(exact d2)|(exact HSa2.out)|(exact HSb2.out)|go_keep)
  (first
   |(go_at_call 201;refine(S2.out _ (HLk.out _ _ _ X2.out (by exact⟨rfl,rfl,rfl,rfl⟩))).mono ?_;rintro e w1 ⟨b2,rfl,hc,hk⟩;have HSa2:=hZ hc;have K2:=hZ hk;clear hc hk)
   |(go_at_call 139;refine(K2.out _ (by exact⟨rfl,rfl,rfl,rfl⟩)).mono ?_;rintro e v3 ⟨rfl,hc,hk⟩;have HSb2:=hZ hc;have X3:=hZ hk;clear hc hk))
 have d3:=HSb2.out
 all_goals go_wp2
 all_goals go_end0
 all_goals exact HQ.out _ X3.out
theorem qpn (mb:Nat) (w:World) (Q:Ending→World→Prop) (St:Nat→World→Prop) (h0:∀w',Lk (w.alloc (.cells #[bp mb] 107)) w'→St 0 w') (hlk:∀k w1 w2,St k w1→Lk w1 w2→St k w2)
  (s0:∀w',St 0 w'→∀w2,Lk (w'.alloc (.cells #[.func (.func 204) #[] #[bp w.heap.size]] 300)) w2→Calls prog 139 #[bp mb,.string ⟨#[108,105,115,116]⟩,.iface 281 (bp w'.heap.size)] w2 fun e w3=>e=.returned (.tuple #[])∧w3.cell? ⟨w.heap.size,0,none⟩=some (bp mb)∧St 1 w3)
  (s1:∀w',St 1 w'→Calls prog 193 #[.func (.func 205) #[] #[bp w.heap.size]] w' (DefKq mb w.heap.size ⟨#[108,101,110,103,116,104]⟩ (St 2)))
  (s2:∀w',St 2 w'→Calls prog 195 #[.func (.func 208) #[] #[bp w.heap.size]] w' (DefKq mb w.heap.size ⟨#[97,112,112,101,110,100]⟩ (St 3)))
  (hQ:∀w',St 3 w'→Q (.returned (.tuple #[])) w'):Calls prog 136 #[bp mb] w Q:=by
 have hmf:∀(fn:Fn) (first cap:Array Value) (w:World),(Instr.makeFunc fn first cap).run prog w=.ok (.func fn first cap) w:=fun _ _ _ _=>rfl
 have HQ:=hZ hQ
 have HLk:=hZ hlk
 have X0:=hZ (h0 _ (by exact⟨rfl,rfl,rfl,rfl⟩))
 have S0:=hZ s0
 have S1:=hZ s1
 have S2:=hZ s2
 have hnw:=heap_alloc_new w (.cells #[bp mb] 107)
 have d0:(w.alloc (.cells #[bp mb] 107)).cell? ⟨w.heap.size,0,none⟩=some (bp mb):=by simp only [World.cell?,hnw];rfl
 have hsz:(w.alloc (.cells #[bp mb] 107)).heap.size=w.heap.size+1:=by simp
 have S0':Hid (∀w2,Lk ((w.alloc (.cells #[bp mb] 107)).alloc (.cells #[.func (.func 204) #[] #[bp w.heap.size]] 300)) w2→Calls prog 139 #[bp mb,.string ⟨#[108,105,115,116]⟩,.iface 281 (bp (w.heap.size+1))] w2 fun e w3=>e=.returned (.tuple #[])∧w3.cell? ⟨w.heap.size,0,none⟩=some (bp mb)∧St 1 w3):=fun w2 h=>by
  have:=S0.out _ X0.out w2 h
  rw [hsz]at this;exact this
 clear hsz
 clear hQ hlk h0 hnw s0 s1 s2
 go_enter func136,ntmps136
 go_wp2_with (first|(go_at_call 139;refine(S0'.out _ (by exact⟨rfl,rfl,rfl,rfl⟩)).mono ?_;rintro e v1 ⟨rfl,d1,hk⟩;have X1:=hZ hk;clear hk;refine Hid.out ?_))
 refine hZ ?_
 go_wp2_with (fail)
 go_region_held2 (fun w'=>w'.cell? ⟨w.heap.size,0,none⟩=some (bp mb)) (first|(exact d1)|(exact HSa1.out)|(exact HSb1.out)|go_keep)
  (first
   |(go_at_call 193;refine(S1.out _ (HLk.out _ _ _ X1.out (by exact⟨rfl,rfl,rfl,rfl⟩))).mono ?_;rintro e w1 ⟨b1,rfl,hc,hk⟩;have HSa1:=hZ hc;have K1:=hZ hk;clear hc hk)
   |(go_at_call 139;refine(K1.out _ (by exact⟨rfl,rfl,rfl,rfl⟩)).mono ?_;rintro e v2 ⟨rfl,hc,hk⟩;have HSb1:=hZ hc;have X2:=hZ hk;clear hc hk))
 have d2:=HSb1.out
 go_wp2_with (fail)
 go_region_held2 (fun w'=>w'.cell? ⟨w.heap.size,0,none⟩=some (bp mb)) (first|(exact d2)|(exact HSa2.out)|(exact HSb2.out)|go_keep)
  (first
   |(go_at_call 195;refine(S2.out _ (HLk.out _ _ _ X2.out (by exact⟨rfl,rfl,rfl,rfl⟩))).mono ?_;rintro e w1 ⟨b2,rfl,hc,hk⟩;have HSa2:=hZ hc;have K2:=hZ hk;clear hc hk)
   |(go_at_call 139;refine(K2.out _ (by exact⟨rfl,rfl,rfl,rfl⟩)).mono ?_;rintro e v3 ⟨rfl,hc,hk⟩;have HSb2:=hZ hc;have X3:=hZ hk;clear hc hk))
 have d3:=HSb2.out
 all_goals go_wp2
 all_goals go_end0
 all_goals exact HQ.out _ X3.out
theorem qpm (mb:Nat) (w:World) (Q:Ending→World→Prop) (St:Nat→World→Prop) (h0:∀w',Lk (w.alloc (.cells #[bp mb] 107)) w'→St 0 w') (hlk:∀k w1 w2,St k w1→Lk w1 w2→St k w2)
  (s0:∀w',St 0 w'→Calls prog 210 #[.func (.func 211) #[] #[bp w.heap.size]] w' (DefKq mb w.heap.size ⟨#[115,116,114,105,110,103,45,97,112,112,101,110,100]⟩ (St 1)))
  (s1:∀w',St 1 w'→Calls prog 214 #[.func (.func 215) #[] #[]] w' (DefKq mb w.heap.size ⟨#[115,116,114,105,110,103,45,108,101,110,103,116,104]⟩ (St 2)))
  (s2:∀w',St 2 w'→Calls prog 216 #[.func (.func 217) #[] #[bp w.heap.size]] w' (DefKq mb w.heap.size ⟨#[110,117,109,98,101,114,45,62,115,116,114,105,110,103]⟩ (St 3)))
  (s3:∀w',St 3 w'→Calls prog 219 #[.func (.func 220) #[] #[bp w.heap.size]] w' (DefKq mb w.heap.size ⟨#[115,121,109,98,111,108,45,62,115,116,114,105,110,103]⟩ (St 4)))
  (hQ:∀w',St 4 w'→Q (.returned (.tuple #[])) w'):Calls prog 137 #[bp mb] w Q:=by
 have hmf:∀(fn:Fn) (first cap:Array Value) (w:World),(Instr.makeFunc fn first cap).run prog w=.ok (.func fn first cap) w:=fun _ _ _ _=>rfl
 have HQ:=hZ hQ
 have HLk:=hZ hlk
 have X0:=hZ (h0 _ (by exact⟨rfl,rfl,rfl,rfl⟩))
 have S0:=hZ s0
 have S1:=hZ s1
 have S2:=hZ s2
 have S3:=hZ s3
 have hnw:=heap_alloc_new w (.cells #[bp mb] 107)
 have d0:(w.alloc (.cells #[bp mb] 107)).cell? ⟨w.heap.size,0,none⟩=some (bp mb):=by simp only [World.cell?,hnw];rfl
 clear hQ hlk h0 hnw s0 s1 s2 s3
 go_enter func137,ntmps137
 go_wp2_with (fail)
 generalize w.alloc (.cells #[bp mb] 107)=v0 at X0 d0⊢
 go_region_held2 (fun w'=>w'.cell? ⟨w.heap.size,0,none⟩=some (bp mb)) (first|(exact d0)|(exact HSa0.out)|(exact HSb0.out)|go_keep)
  (first
   |(go_at_call 210;refine(S0.out _ (HLk.out _ _ _ X0.out (by exact⟨rfl,rfl,rfl,rfl⟩))).mono ?_;rintro e w1 ⟨b0,rfl,hc,hk⟩;have HSa0:=hZ hc;have K0:=hZ hk;clear hc hk)
   |(go_at_call 139;refine(K0.out _ (by exact⟨rfl,rfl,rfl,rfl⟩)).mono ?_;rintro e v1 ⟨rfl,hc,hk⟩;have HSb0:=hZ hc;have X1:=hZ hk;clear hc hk))
 have d1:=HSb0.out
 go_wp2_with (fail)
 go_region_held2 (fun w'=>w'.cell? ⟨w.heap.size,0,none⟩=some (bp mb)) (first|(exact d1)|(exact HSa1.out)|(exact HSb1.out)|go_keep)
  (first
   |(go_at_call 214;refine(S1.out _ (HLk.out _ _ _ X1.out (by exact⟨rfl,rfl,rfl,rfl⟩))).mono ?_;rintro e w1 ⟨b1,rfl,hc,hk⟩;have HSa1:=hZ hc;have K1:=hZ hk;clear hc hk)
   |(go_at_call 139;refine(K1.out _ (by exact⟨rfl,rfl,rfl,rfl⟩)).mono ?_;rintro e v2 ⟨rfl,hc,hk⟩;have HSb1:=hZ hc;have X2:=hZ hk;clear hc hk))
 have d2:=HSb1.out
 go_wp2_with (fail)
 go_region_held2 (fun w'=>w'.cell? ⟨w.heap.size,0,none⟩=some (bp mb)) (first|(exact d2)|(exact HSa2.out)|(exact HSb2.out)|go_keep)
  (first
   |(go_at_call 216;refine(S2.out _ (HLk.out _ _ _ X2.out (by exact⟨rfl,rfl,rfl,rfl⟩))).mono ?_;rintro e w1 ⟨b2,rfl,hc,hk⟩;have HSa2:=hZ hc;have K2:=hZ hk;clear hc hk)
   |(go_at_call 139;refine(K2.out _ (by exact⟨rfl,rfl,rfl,rfl⟩)).mono ?_;rintro e v3 ⟨rfl,hc,hk⟩;have HSb2:=hZ hc;have X3:=hZ hk;clear hc hk))
 have d3:=HSb2.out
 go_wp2_with (fail)
 go_region_held2 (fun w'=>w'.cell? ⟨w.heap.size,0,none⟩=some (bp mb)) (first|(exact d3)|(exact HSa3.out)|(exact HSb3.out)|go_keep)
  (first
   |(go_at_call 219;refine(S3.out _ (HLk.out _ _ _ X3.out (by exact⟨rfl,rfl,rfl,rfl⟩))).mono ?_;rintro e w1 ⟨b3,rfl,hc,hk⟩;have HSa3:=hZ hc;have K3:=hZ hk;clear hc hk)
   |(go_at_call 139;refine(K3.out _ (by exact⟨rfl,rfl,rfl,rfl⟩)).mono ?_;rintro e v4 ⟨rfl,hc,hk⟩;have HSb3:=hZ hc;have X4:=hZ hk;clear hc hk))
 have d4:=HSb3.out
 all_goals go_wp2
 all_goals go_end0
 all_goals exact HQ.out _ X4.out
theorem qpl (mb:Nat) (w:World) (Q:Ending→World→Prop) (St:Nat→World→Prop) (h0:∀w',Lk (w.alloc (.cells #[bp mb] 107)) w'→St 0 w') (hlk:∀k w1 w2,St k w1→Lk w1 w2→St k w2)
  (s0:∀w',St 0 w'→Calls prog 221 #[bp mb] w' (DefKq mb w.heap.size ⟨#[97,112,112,108,121]⟩ (St 1)))
  (s1:∀w',St 1 w'→Calls prog 222 #[bp mb] w' (DefKq mb w.heap.size ⟨#[99,97,108,108,47,99,99]⟩ (St 2)))
  (s2:∀w',St 2 w'→Calls prog 223 #[bp mb] w' (DefKq mb w.heap.size ⟨#[100,121,110,97,109,105,99,45,119,105,110,100]⟩ (St 3)))
  (s3:∀w',St 3 w'→Calls prog 193 #[.func (.func 224) #[] #[]] w' (DefKq mb w.heap.size ⟨#[101,114,114,111,114]⟩ (St 4)))
  (s4:∀w',St 4 w'→Calls prog 193 #[.func (.func 225) #[] #[bp w.heap.size]] w' (DefKq mb w.heap.size ⟨#[115,101,97,108]⟩ (St 5)))
  (hQ:∀w',St 5 w'→Q (.returned (.tuple #[])) w'):Calls prog 138 #[bp mb] w Q:=by
 have hmf:∀(fn:Fn) (first cap:Array Value) (w:World),(Instr.makeFunc fn first cap).run prog w=.ok (.func fn first cap) w:=fun _ _ _ _=>rfl
 have HQ:=hZ hQ
 have HLk:=hZ hlk
 have X0:=hZ (h0 _ (by exact⟨rfl,rfl,rfl,rfl⟩))
 have S0:=hZ s0
 have S1:=hZ s1
 have S2:=hZ s2
 have S3:=hZ s3
 have S4:=hZ s4
 have hnw:=heap_alloc_new w (.cells #[bp mb] 107)
 have d0:(w.alloc (.cells #[bp mb] 107)).cell? ⟨w.heap.size,0,none⟩=some (bp mb):=by simp only [World.cell?,hnw];rfl
 clear hQ hlk h0 hnw s0 s1 s2 s3 s4
 go_enter func138,ntmps138
 go_wp2_with (fail)
 generalize w.alloc (.cells #[bp mb] 107)=v0 at X0 d0⊢
 go_region_held2 (fun w'=>w'.cell? ⟨w.heap.size,0,none⟩=some (bp mb)) (first|(exact d0)|(exact HSa0.out)|(exact HSb0.out)|go_keep)
  (first
   |(go_at_call 221;refine(S0.out _ (HLk.out _ _ _ X0.out (by exact⟨rfl,rfl,rfl,rfl⟩))).mono ?_;rintro e w1 ⟨b0,rfl,hc,hk⟩;have HSa0:=hZ hc;have K0:=hZ hk;clear hc hk)
   |(go_at_call 139;refine(K0.out _ (by exact⟨rfl,rfl,rfl,rfl⟩)).mono ?_;rintro e v1 ⟨rfl,hc,hk⟩;have HSb0:=hZ hc;have X1:=hZ hk;clear hc hk))
 have d1:=HSb0.out
 go_wp2_with (fail)
 go_region_held2 (fun w'=>w'.cell? ⟨w.heap.size,0,none⟩=some (bp mb)) (first|(exact d1)|(exact HSa1.out)|(exact HSb1.out)|go_keep)
  (first
   |(go_at_call 222;refine(S1.out _ (HLk.out _ _ _ X1.out (by exact⟨rfl,rfl,rfl,rfl⟩))).mono ?_;rintro e w1 ⟨b1,rfl,hc,hk⟩;have HSa1:=hZ hc;have K1:=hZ hk;clear hc hk)
   |(go_at_call 139;refine(K1.out _ (by exact⟨rfl,rfl,rfl,rfl⟩)).mono ?_;rintro e v2 ⟨rfl,hc,hk⟩;have HSb1:=hZ hc;have X2:=hZ hk;clear hc hk))
 have d2:=HSb1.out
 go_wp2_with (fail)
 go_region_held2 (fun w'=>w'.cell? ⟨w.heap.size,0,none⟩=some (bp mb)) (first|(exact d2)|(exact HSa2.out)|(exact HSb2.out)|go_keep)
  (first
   |(go_at_call 223;refine(S2.out _ (HLk.out _ _ _ X2.out (by exact⟨rfl,rfl,rfl,rfl⟩))).mono ?_;rintro e w1 ⟨b2,rfl,hc,hk⟩;have HSa2:=hZ hc;have K2:=hZ hk;clear hc hk)
   |(go_at_call 139;refine(K2.out _ (by exact⟨rfl,rfl,rfl,rfl⟩)).mono ?_;rintro e v3 ⟨rfl,hc,hk⟩;have HSb2:=hZ hc;have X3:=hZ hk;clear hc hk))
 have d3:=HSb2.out
 go_wp2_with (fail)
 go_region_held2 (fun w'=>w'.cell? ⟨w.heap.size,0,none⟩=some (bp mb)) (first|(exact d3)|(exact HSa3.out)|(exact HSb3.out)|go_keep)
  (first
   |(go_at_call 193;refine(S3.out _ (HLk.out _ _ _ X3.out (by exact⟨rfl,rfl,rfl,rfl⟩))).mono ?_;rintro e w1 ⟨b3,rfl,hc,hk⟩;have HSa3:=hZ hc;have K3:=hZ hk;clear hc hk)
   |(go_at_call 139;refine(K3.out _ (by exact⟨rfl,rfl,rfl,rfl⟩)).mono ?_;rintro e v4 ⟨rfl,hc,hk⟩;have HSb3:=hZ hc;have X4:=hZ hk;clear hc hk))
 have d4:=HSb3.out
 go_wp2_with (fail)
 go_region_held2 (fun w'=>w'.cell? ⟨w.heap.size,0,none⟩=some (bp mb)) (first|(exact d4)|(exact HSa4.out)|(exact HSb4.out)|go_keep)
  (first
   |(go_at_call 193;refine(S4.out _ (HLk.out _ _ _ X4.out (by exact⟨rfl,rfl,rfl,rfl⟩))).mono ?_;rintro e w1 ⟨b4,rfl,hc,hk⟩;have HSa4:=hZ hc;have K4:=hZ hk;clear hc hk)
   |(go_at_call 139;refine(K4.out _ (by exact⟨rfl,rfl,rfl,rfl⟩)).mono ?_;rintro e v5 ⟨rfl,hc,hk⟩;have HSb4:=hZ hc;have X5:=hZ hk;clear hc hk))
 have d5:=HSb4.out
 all_goals go_wp2
 all_goals go_end0
 all_goals exact HQ.out _ X5.out
end
end Go.Proofs.YtldaocpojcfljaaGreatDoor
