import Derived.Test.YtldaocpojcfljaaGreatDoorC19
set_option maxRecDepth 100000
set_option maxHeartbeats 4000000
namespace Go.Proofs.YtldaocpojcfljaaGreatDoor
open Tryz hiding parts
open Go.RowKit Go.Shelf
section
open Sc
theorem WorkOk.bool {G:Gh} {S:Sub} {m:Mc} {w:World} {b:Bool} {rv:Except Nat Vl×Mc} (h:rv=(.ok (.bool b),m)) (i:Inv G S m w):WorkOk G S rv (.returned (.iface 181 (.bool b))) w:=
 .inl ⟨G,_,_,_,h,rfl,Gh.up.refl G,i,.bool b⟩
theorem is186_w (w:World):Calls prog 260 #[.iface 186 (.agg #[])] w fun e w'=>e=.returned (.iface 181 (.bool true))∧(w'=w∨∃o,w'=w.alloc o):=by
 have ha:∀w,(Instr.typeAssert (.iface 186 (.agg #[])) 116 186 true).run prog w=.ok (.tuple #[.agg #[],.bool true]) w:=fun w=>is186 _ w
 go_enter func260,ntmps260
 go_wp2
 go_ret
 first|exact⟨rfl,.inl rfl⟩|exact⟨rfl,.inr ⟨_,rfl⟩⟩
theorem qho (t:Nat) (y:Value) (ht:t≠186) (w:World):Calls prog 260 #[.iface t y] w fun e w'=>e=.returned (.iface 181 (.bool false))∧(w'=w∨∃o,w'=w.alloc o):=by
 have ha:∀w,(Instr.typeAssert (.iface t y) 116 186 true).run prog w=.ok (.tuple #[.agg #[],.bool false]) w:=fun w=>qc0 _ _ ht w
 clear ht
 go_enter func260,ntmps260
 go_wp2
 go_ret
 first|exact⟨rfl,.inl rfl⟩|exact⟨rfl,.inr ⟨_,rfl⟩⟩
theorem ql4 {S:Sub} (m:Mc) (H:Gh) (w:World) (v:Vl) (x:Value) (i:Inv H S m w) (hv:VRep H v x):Calls prog 260 (#[x]++#[]) w (WorkOk H S (value S m .nullQ [v])):=by
 have key:∀(x:Value) (b:Bool),value S m .nullQ [v]=(.ok (.bool b),m)→Calls prog 260 #[x] w (fun e w'=>e=.returned (.iface 181 (.bool b))∧(w'=w∨∃o,w'=w.alloc o))→Calls prog 260 (#[x]++#[]) w (WorkOk H S (value S m .nullQ [v])):=fun x b h hc=>by
  refine Calls.mono hc ?_
  rintro e w' ⟨rfl,rfl|⟨o,rfl⟩⟩
  ·exact WorkOk.bool h i
  ·exact WorkOk.bool h (i.below ((Below.refl _ _).alloc (Nat.le_refl _) _))
 cases hv with
 |proc v b h=>exact key _ false (by cases h <;> rfl) (qho _ _ (by decide) w)
 |nil=>exact key _ true rfl (is186_w w)
 |_=>exact key _ false rfl (qho _ _ (by decide) w)
theorem is246_w (b:Nat) (w:World):Calls prog 261 #[.iface 246 (.pointer (some ⟨b,0,none⟩))] w fun e w'=>e=.returned (.iface 181 (.bool true))∧(w'=w∨∃o,w'=w.alloc o):=by
 have ha:∀w,(Instr.typeAssert (.iface 246 (.pointer (some ⟨b,0,none⟩))) 116 246 true).run prog w=.ok (.tuple #[.pointer (some ⟨b,0,none⟩),.bool true]) w:=fun w=>qgj _ w
 go_enter func261,ntmps261
 go_wp2
 go_ret
 first|exact⟨rfl,.inl rfl⟩|exact⟨rfl,.inr ⟨_,rfl⟩⟩
theorem qhn (t:Nat) (y:Value) (ht:t≠246) (w:World):Calls prog 261 #[.iface t y] w fun e w'=>e=.returned (.iface 181 (.bool false))∧(w'=w∨∃o,w'=w.alloc o):=by
 have ha:∀w,(Instr.typeAssert (.iface t y) 116 246 true).run prog w=.ok (.tuple #[.pointer none,.bool false]) w:=fun w=>qcd _ _ ht w
 clear ht
 go_enter func261,ntmps261
 go_wp2
 go_ret
 first|exact⟨rfl,.inl rfl⟩|exact⟨rfl,.inr ⟨_,rfl⟩⟩
theorem qlu {S:Sub} (m:Mc) (H:Gh) (w:World) (v:Vl) (x:Value) (i:Inv H S m w) (hv:VRep H v x):Calls prog 261 (#[x]++#[]) w (WorkOk H S (value S m .pairQ [v])):=by
 have key:∀(x:Value) (b:Bool),value S m .pairQ [v]=(.ok (.bool b),m)→Calls prog 261 #[x] w (fun e w'=>e=.returned (.iface 181 (.bool b))∧(w'=w∨∃o,w'=w.alloc o))→Calls prog 261 (#[x]++#[]) w (WorkOk H S (value S m .pairQ [v])):=fun x b h hc=>by
  refine Calls.mono hc ?_
  rintro e w' ⟨rfl,rfl|⟨o,rfl⟩⟩
  ·exact WorkOk.bool h i
  ·exact WorkOk.bool h (i.below ((Below.refl _ _).alloc (Nat.le_refl _) _))
 cases hv with
 |proc v b h=>exact key _ false (by cases h <;> rfl) (qhn _ _ (by decide) w)
 |pair id b=>exact key _ true rfl (is246_w b w)
 |_=>exact key _ false rfl (qhn _ _ (by decide) w)
theorem is180_w (b:Int) (w:World):Calls prog 262 #[.iface 180 (.int .i64 b)] w fun e w'=>e=.returned (.iface 181 (.bool true))∧(w'=w∨∃o,w'=w.alloc o):=by
 have ha:∀w,(Instr.typeAssert (.iface 180 (.int .i64 b)) 116 180 true).run prog w=.ok (.tuple #[.int .i64 b,.bool true]) w:=fun w=>is180 _ w
 go_enter func262,ntmps262
 go_wp2
 go_ret
 first|exact⟨rfl,.inl rfl⟩|exact⟨rfl,.inr ⟨_,rfl⟩⟩
theorem qhs (t:Nat) (y:Value) (ht:t≠180) (w:World):Calls prog 262 #[.iface t y] w fun e w'=>e=.returned (.iface 181 (.bool false))∧(w'=w∨∃o,w'=w.alloc o):=by
 have ha:∀w,(Instr.typeAssert (.iface t y) 116 180 true).run prog w=.ok (.tuple #[.int .i64 0,.bool false]) w:=fun w=>qbx _ _ ht w
 clear ht
 go_enter func262,ntmps262
 go_wp2
 go_ret
 first|exact⟨rfl,.inl rfl⟩|exact⟨rfl,.inr ⟨_,rfl⟩⟩
theorem qo3 {S:Sub} (m:Mc) (H:Gh) (w:World) (v:Vl) (x:Value) (i:Inv H S m w) (hv:VRep H v x):Calls prog 262 (#[x]++#[]) w (WorkOk H S (value S m .intQ [v])):=by
 have key:∀(x:Value) (b:Bool),value S m .intQ [v]=(.ok (.bool b),m)→Calls prog 262 #[x] w (fun e w'=>e=.returned (.iface 181 (.bool b))∧(w'=w∨∃o,w'=w.alloc o))→Calls prog 262 (#[x]++#[]) w (WorkOk H S (value S m .intQ [v])):=fun x b h hc=>by
  refine Calls.mono hc ?_
  rintro e w' ⟨rfl,rfl|⟨o,rfl⟩⟩
  ·exact WorkOk.bool h i
  ·exact WorkOk.bool h (i.below ((Below.refl _ _).alloc (Nat.le_refl _) _))
 cases hv with
 |proc v b h=>exact key _ false (by cases h <;> rfl) (qhs _ _ (by decide) w)
 |num b h0 h1=>exact key _ true rfl (is180_w b w)
 |_=>exact key _ false rfl (qhs _ _ (by decide) w)
theorem is183_w (b:ByteArray) (w:World):Calls prog 263 #[.iface 183 (.string b)] w fun e w'=>e=.returned (.iface 181 (.bool true))∧(w'=w∨∃o,w'=w.alloc o):=by
 have ha:∀w,(Instr.typeAssert (.iface 183 (.string b)) 116 183 true).run prog w=.ok (.tuple #[.string b,.bool true]) w:=fun w=>is183 _ w
 go_enter func263,ntmps263
 go_wp2
 go_ret
 first|exact⟨rfl,.inl rfl⟩|exact⟨rfl,.inr ⟨_,rfl⟩⟩
theorem qhp (t:Nat) (y:Value) (ht:t≠183) (w:World):Calls prog 263 #[.iface t y] w fun e w'=>e=.returned (.iface 181 (.bool false))∧(w'=w∨∃o,w'=w.alloc o):=by
 have ha:∀w,(Instr.typeAssert (.iface t y) 116 183 true).run prog w=.ok (.tuple #[.string ⟨#[]⟩,.bool false]) w:=fun w=>qcl _ _ ht w
 clear ht
 go_enter func263,ntmps263
 go_wp2
 go_ret
 first|exact⟨rfl,.inl rfl⟩|exact⟨rfl,.inr ⟨_,rfl⟩⟩
theorem qnk {S:Sub} (m:Mc) (H:Gh) (w:World) (v:Vl) (x:Value) (i:Inv H S m w) (hv:VRep H v x):Calls prog 263 (#[x]++#[]) w (WorkOk H S (value S m .symQ [v])):=by
 have key:∀(x:Value) (b:Bool),value S m .symQ [v]=(.ok (.bool b),m)→Calls prog 263 #[x] w (fun e w'=>e=.returned (.iface 181 (.bool b))∧(w'=w∨∃o,w'=w.alloc o))→Calls prog 263 (#[x]++#[]) w (WorkOk H S (value S m .symQ [v])):=fun x b h hc=>by
  refine Calls.mono hc ?_
  rintro e w' ⟨rfl,rfl|⟨o,rfl⟩⟩
  ·exact WorkOk.bool h i
  ·exact WorkOk.bool h (i.below ((Below.refl _ _).alloc (Nat.le_refl _) _))
 cases hv with
 |proc v b h=>exact key _ false (by cases h <;> rfl) (qhp _ _ (by decide) w)
 |sym b _=>exact key _ true rfl (is183_w b w)
 |_=>exact key _ false rfl (qhp _ _ (by decide) w)
theorem is182_w (b:ByteArray) (w:World):Calls prog 264 #[.iface 182 (.string b)] w fun e w'=>e=.returned (.iface 181 (.bool true))∧(w'=w∨∃o,w'=w.alloc o):=by
 have ha:∀w,(Instr.typeAssert (.iface 182 (.string b)) 116 182 true).run prog w=.ok (.tuple #[.string b,.bool true]) w:=fun w=>is182 _ w
 go_enter func264,ntmps264
 go_wp2
 go_ret
 first|exact⟨rfl,.inl rfl⟩|exact⟨rfl,.inr ⟨_,rfl⟩⟩
theorem qhq (t:Nat) (y:Value) (ht:t≠182) (w:World):Calls prog 264 #[.iface t y] w fun e w'=>e=.returned (.iface 181 (.bool false))∧(w'=w∨∃o,w'=w.alloc o):=by
 have ha:∀w,(Instr.typeAssert (.iface t y) 116 182 true).run prog w=.ok (.tuple #[.string ⟨#[]⟩,.bool false]) w:=fun w=>qce _ _ ht w
 clear ht
 go_enter func264,ntmps264
 go_wp2
 go_ret
 first|exact⟨rfl,.inl rfl⟩|exact⟨rfl,.inr ⟨_,rfl⟩⟩
theorem qno {S:Sub} (m:Mc) (H:Gh) (w:World) (v:Vl) (x:Value) (i:Inv H S m w) (hv:VRep H v x):Calls prog 264 (#[x]++#[]) w (WorkOk H S (value S m .strQ [v])):=by
 have key:∀(x:Value) (b:Bool),value S m .strQ [v]=(.ok (.bool b),m)→Calls prog 264 #[x] w (fun e w'=>e=.returned (.iface 181 (.bool b))∧(w'=w∨∃o,w'=w.alloc o))→Calls prog 264 (#[x]++#[]) w (WorkOk H S (value S m .strQ [v])):=fun x b h hc=>by
  refine Calls.mono hc ?_
  rintro e w' ⟨rfl,rfl|⟨o,rfl⟩⟩
  ·exact WorkOk.bool h i
  ·exact WorkOk.bool h (i.below ((Below.refl _ _).alloc (Nat.le_refl _) _))
 cases hv with
 |proc v b h=>exact key _ false (by cases h <;> rfl) (qhq _ _ (by decide) w)
 |str b _=>exact key _ true rfl (is182_w b w)
 |_=>exact key _ false rfl (qhq _ _ (by decide) w)
theorem is181_w (b:Bool) (w:World):Calls prog 265 #[.iface 181 (.bool b)] w fun e w'=>e=.returned (.iface 181 (.bool true))∧(w'=w∨∃o,w'=w.alloc o):=by
 have ha:∀w,(Instr.typeAssert (.iface 181 (.bool b)) 116 181 true).run prog w=.ok (.tuple #[.bool b,.bool true]) w:=fun w=>is181 _ w
 go_enter func265,ntmps265
 go_wp2
 go_ret
 first|exact⟨rfl,.inl rfl⟩|exact⟨rfl,.inr ⟨_,rfl⟩⟩
theorem qhr (t:Nat) (y:Value) (ht:t≠181) (w:World):Calls prog 265 #[.iface t y] w fun e w'=>e=.returned (.iface 181 (.bool false))∧(w'=w∨∃o,w'=w.alloc o):=by
 have ha:∀w,(Instr.typeAssert (.iface t y) 116 181 true).run prog w=.ok (.tuple #[.bool false,.bool false]) w:=fun w=>qcf _ _ ht w
 clear ht
 go_enter func265,ntmps265
 go_wp2
 go_ret
 first|exact⟨rfl,.inl rfl⟩|exact⟨rfl,.inr ⟨_,rfl⟩⟩
theorem qm2 {S:Sub} (m:Mc) (H:Gh) (w:World) (v:Vl) (x:Value) (i:Inv H S m w) (hv:VRep H v x):Calls prog 265 (#[x]++#[]) w (WorkOk H S (value S m .boolQ [v])):=by
 have key:∀(x:Value) (b:Bool),value S m .boolQ [v]=(.ok (.bool b),m)→Calls prog 265 #[x] w (fun e w'=>e=.returned (.iface 181 (.bool b))∧(w'=w∨∃o,w'=w.alloc o))→Calls prog 265 (#[x]++#[]) w (WorkOk H S (value S m .boolQ [v])):=fun x b h hc=>by
  refine Calls.mono hc ?_
  rintro e w' ⟨rfl,rfl|⟨o,rfl⟩⟩
  ·exact WorkOk.bool h i
  ·exact WorkOk.bool h (i.below ((Below.refl _ _).alloc (Nat.le_refl _) _))
 cases hv with
 |proc v b h=>exact key _ false (by cases h <;> rfl) (qhr _ _ (by decide) w)
 |bool b=>exact key _ true rfl (is181_w b w)
 |_=>exact key _ false rfl (qhr _ _ (by decide) w)
theorem is281_w (b:Nat) (w:World):Calls prog 266 #[.iface 281 (.pointer (some ⟨b,0,none⟩))] w fun e w'=>e=.returned (.iface 181 (.bool true))∧(w'=w∨∃o,w'=w.alloc o):=by
 have ha:∀w,(Instr.typeAssert (.iface 281 (.pointer (some ⟨b,0,none⟩))) 116 281 true).run prog w=.ok (.tuple #[.pointer (some ⟨b,0,none⟩),.bool true]) w:=fun w=>qsd _ w
 go_enter func266,ntmps266
 go_wp2
 go_ret
 first|exact⟨rfl,.inl rfl⟩|exact⟨rfl,.inr ⟨_,rfl⟩⟩
theorem qo1 (t:Nat) (y:Value) (ht:t≠281) (w:World):Calls prog 266 #[.iface t y] w fun e w'=>e=.returned (.iface 181 (.bool false))∧(w'=w∨∃o,w'=w.alloc o):=by
 have ha:∀w,(Instr.typeAssert (.iface t y) 116 281 true).run prog w=.ok (.tuple #[.pointer none,.bool false]) w:=fun w=>qcz _ _ ht w
 clear ht
 go_enter func266,ntmps266
 go_wp2
 go_ret
 first|exact⟨rfl,.inl rfl⟩|exact⟨rfl,.inr ⟨_,rfl⟩⟩
theorem qls {S:Sub} (m:Mc) (H:Gh) (w:World) (v:Vl) (x:Value) (i:Inv H S m w) (hv:VRep H v x):Calls prog 266 (#[x]++#[]) w (WorkOk H S (value S m .procQ [v])):=by
 have key:∀(x:Value) (b:Bool),value S m .procQ [v]=(.ok (.bool b),m)→Calls prog 266 #[x] w (fun e w'=>e=.returned (.iface 181 (.bool b))∧(w'=w∨∃o,w'=w.alloc o))→Calls prog 266 (#[x]++#[]) w (WorkOk H S (value S m .procQ [v])):=fun x b h hc=>by
  refine Calls.mono hc ?_
  rintro e w' ⟨rfl,rfl|⟨o,rfl⟩⟩
  ·exact WorkOk.bool h i
  ·exact WorkOk.bool h (i.below ((Below.refl _ _).alloc (Nat.le_refl _) _))
 cases hv with
 |proc v b h=>exact key _ true (by cases h <;> rfl) (is281_w b w)
 |_=>exact key _ false rfl (qo1 _ _ (by decide) w)
theorem qo2 (b:Nat) (w:World):Calls prog 267 #[.iface 285 (.pointer (some ⟨b,0,none⟩))] w fun e w'=>e=.returned (.iface 181 (.bool true))∧(w'=w∨∃o,w'=w.alloc o):=by
 have ha:∀w,(Instr.typeAssert (.iface 285 (.pointer (some ⟨b,0,none⟩))) 116 285 true).run prog w=.ok (.tuple #[.pointer (some ⟨b,0,none⟩),.bool true]) w:=fun w=>is285 _ w
 go_enter func267,ntmps267
 go_wp2
 go_ret
 first|exact⟨rfl,.inl rfl⟩|exact⟨rfl,.inr ⟨_,rfl⟩⟩
theorem qhm (t:Nat) (y:Value) (ht:t≠285) (w:World):Calls prog 267 #[.iface t y] w fun e w'=>e=.returned (.iface 181 (.bool false))∧(w'=w∨∃o,w'=w.alloc o):=by
 have ha:∀w,(Instr.typeAssert (.iface t y) 116 285 true).run prog w=.ok (.tuple #[.pointer none,.bool false]) w:=fun w=>qjj _ _ ht w
 clear ht
 go_enter func267,ntmps267
 go_wp2
 go_ret
 first|exact⟨rfl,.inl rfl⟩|exact⟨rfl,.inr ⟨_,rfl⟩⟩
theorem qll {S:Sub} (m:Mc) (H:Gh) (w:World) (v:Vl) (x:Value) (i:Inv H S m w) (hv:VRep H v x):Calls prog 267 (#[x]++#[]) w (WorkOk H S (value S m .sealQ [v])):=by
 have key:∀(x:Value) (b:Bool),value S m .sealQ [v]=(.ok (.bool b),m)→Calls prog 267 #[x] w (fun e w'=>e=.returned (.iface 181 (.bool b))∧(w'=w∨∃o,w'=w.alloc o))→Calls prog 267 (#[x]++#[]) w (WorkOk H S (value S m .sealQ [v])):=fun x b h hc=>by
  refine Calls.mono hc ?_
  rintro e w' ⟨rfl,rfl|⟨o,rfl⟩⟩
  ·exact WorkOk.bool h i
  ·exact WorkOk.bool h (i.below ((Below.refl _ _).alloc (Nat.le_refl _) _))
 cases hv with
 |proc v b h=>exact key _ false (by cases h <;> rfl) (qhm _ _ (by decide) w)
 |«seal» id b=>exact key _ true rfl (qo2 b w)
 |sealD id b=>exact key _ true rfl (qo2 b w)
 |_=>exact key _ false rfl (qhm _ _ (by decide) w)
end
section
open Sc
theorem not_b (b:Bool) (w:World):Calls prog 194 #[.iface 181 (.bool b)] w fun e w'=>e=.returned (.iface 181 (.bool (!b)))∧w'=w:=by
 have ha:∀w,(binOp .eql 116 (.iface 181 (.bool b)) (.iface 181 (.bool false))).run prog w=.ok (.bool (!b)) w:=fun w=>by
  rw [qdd];cases b <;> rfl
 go_enter func194,ntmps194
 go_wp2
 go_ret
 exact⟨rfl,rfl⟩
theorem not_n (t:Nat) (y:Value) (ht:t≠181) (w:World):Calls prog 194 #[.iface t y] w fun e w'=>e=.returned (.iface 181 (.bool false))∧w'=w:=by
 have ha:∀w,(binOp .eql 116 (.iface t y) (.iface 181 (.bool false))).run prog w=.ok (.bool false) w:=fun w=>qaw _ _ _ _ ht w
 clear ht
 go_enter func194,ntmps194
 go_wp2
 go_ret
 exact⟨rfl,rfl⟩
theorem qrt {S:Sub} (m:Mc) (H:Gh) (w:World) (v:Vl) (x:Value) (i:Inv H S m w) (hv:VRep H v x):Calls prog 194 (#[x]++#[]) w (WorkOk H S (value S m .not [v])):=by
 have key:∀(x:Value) (b:Bool),value S m .not [v]=(.ok (.bool b),m)→Calls prog 194 #[x] w (fun e w'=>e=.returned (.iface 181 (.bool b))∧w'=w)→Calls prog 194 (#[x]++#[]) w (WorkOk H S (value S m .not [v])):=fun x b h hc=>by
  refine Calls.mono hc ?_
  rintro e w' ⟨rfl,rfl⟩
  exact WorkOk.bool h i
 cases hv with
 |bool b=>exact key _ (!b) (by cases b <;> rfl) (not_b b w)
 |proc v b h=>exact key _ false (by cases h <;> rfl) (not_n _ _ (by decide) w)
 |_=>exact key _ false rfl (not_n _ _ (by decide) w)
theorem qpi (d:Nat) (b b':Nat) (w:World) {c c':Array Value} {k k':Nat} (hb:w.heap[b]? =some (.cells c k (0,0))) (hb':w.heap[b']? =some (.cells c' k' (0,0))):(Op.equalIn (d+1) 246 (.pointer (some ⟨b,0,none⟩)) (.pointer (some ⟨b',0,none⟩))).run prog w=.ok (b==b') w:=by
 by_cases e:b=b'
 ·subst e
  simp [Op.equalIn,run_underlying underlying246,run_sameAddr_same,go_sem]
 ·have hs:=run_sameAddr_other (P:=prog) (w:=w) (a:=⟨b,0,none⟩) (b:=⟨b',0,none⟩) (by intro h;cases h;exact e rfl) hb hb'
  simp [Op.equalIn,run_underlying underlying246,hs,go_sem,e]
theorem qsw (b b':Nat) (w:World) {c c':Array Value} {k k':Nat} (hb:w.heap[b]? =some (.cells c k (0,0))) (hb':w.heap[b']? =some (.cells c' k' (0,0))):(binOp .eql 116 (.iface 246 (bp b)) (.iface 246 (bp b'))).run prog w=.ok (.bool (b==b')) w:=
 qb2 246 _ _ _ w w fun d=>by
  have h:=qpi d b b' w hb hb'
  have hu:=run_underlying (w:=w) underlying116
  rw [Op.equalIn]
  simp [run_underlying underlying116,cmp246,h]
theorem qph (d:Nat) (b b':Nat) (w:World) {c c':Array Value} {k k':Nat} (hb:w.heap[b]? =some (.cells c k (0,0))) (hb':w.heap[b']? =some (.cells c' k' (0,0))):(Op.equalIn (d+1) 281 (.pointer (some ⟨b,0,none⟩)) (.pointer (some ⟨b',0,none⟩))).run prog w=.ok (b==b') w:=by
 by_cases e:b=b'
 ·subst e
  simp [Op.equalIn,run_underlying underlying281,run_sameAddr_same,go_sem]
 ·have hs:=run_sameAddr_other (P:=prog) (w:=w) (a:=⟨b,0,none⟩) (b:=⟨b',0,none⟩) (by intro h;cases h;exact e rfl) hb hb'
  simp [Op.equalIn,run_underlying underlying281,hs,go_sem,e]
theorem qsv (b b':Nat) (w:World) {c c':Array Value} {k k':Nat} (hb:w.heap[b]? =some (.cells c k (0,0))) (hb':w.heap[b']? =some (.cells c' k' (0,0))):(binOp .eql 116 (.iface 281 (bp b)) (.iface 281 (bp b'))).run prog w=.ok (.bool (b==b')) w:=
 qb2 281 _ _ _ w w fun d=>by
  have h:=qph d b b' w hb hb'
  have hu:=run_underlying (w:=w) underlying116
  rw [Op.equalIn]
  simp [run_underlying underlying116,cmp281,h]
theorem qpg (d:Nat) (b b':Nat) (w:World) {c c':Array Value} {k k':Nat} (hb:w.heap[b]? =some (.cells c k (0,0))) (hb':w.heap[b']? =some (.cells c' k' (0,0))):(Op.equalIn (d+1) 285 (.pointer (some ⟨b,0,none⟩)) (.pointer (some ⟨b',0,none⟩))).run prog w=.ok (b==b') w:=by
 by_cases e:b=b'
 ·subst e
  simp [Op.equalIn,run_underlying underlying285,run_sameAddr_same,go_sem]
 ·have hs:=run_sameAddr_other (P:=prog) (w:=w) (a:=⟨b,0,none⟩) (b:=⟨b',0,none⟩) (by intro h;cases h;exact e rfl) hb hb'
  simp [Op.equalIn,run_underlying underlying285,hs,go_sem,e]
theorem qd4 (b b':Nat) (w:World) {c c':Array Value} {k k':Nat} (hb:w.heap[b]? =some (.cells c k (0,0))) (hb':w.heap[b']? =some (.cells c' k' (0,0))):(binOp .eql 116 (.iface 285 (bp b)) (.iface 285 (bp b'))).run prog w=.ok (.bool (b==b')) w:=
 qb2 285 _ _ _ w w fun d=>by
  have h:=qpg d b b' w hb hb'
  have hu:=run_underlying (w:=w) underlying116
  rw [Op.equalIn]
  simp [run_underlying underlying116,cmp285,h]
theorem qpf (d:Nat) (b b':Nat) (w:World) {c c':Array Value} {k k':Nat} (hb:w.heap[b]? =some (.cells c k (0,0))) (hb':w.heap[b']? =some (.cells c' k' (0,0))):(Op.equalIn (d+1) 322 (.pointer (some ⟨b,0,none⟩)) (.pointer (some ⟨b',0,none⟩))).run prog w=.ok (b==b') w:=by
 by_cases e:b=b'
 ·subst e
  simp [Op.equalIn,run_underlying underlying322,run_sameAddr_same,go_sem]
 ·have hs:=run_sameAddr_other (P:=prog) (w:=w) (a:=⟨b,0,none⟩) (b:=⟨b',0,none⟩) (by intro h;cases h;exact e rfl) hb hb'
  simp [Op.equalIn,run_underlying underlying322,hs,go_sem,e]
theorem qsu (b b':Nat) (w:World) {c c':Array Value} {k k':Nat} (hb:w.heap[b]? =some (.cells c k (0,0))) (hb':w.heap[b']? =some (.cells c' k' (0,0))):(binOp .eql 116 (.iface 322 (bp b)) (.iface 322 (bp b'))).run prog w=.ok (.bool (b==b')) w:=
 qb2 322 _ _ _ w w fun d=>by
  have h:=qpf d b b' w hb hb'
  have hu:=run_underlying (w:=w) underlying116
  rw [Op.equalIn]
  simp [run_underlying underlying116,cmp322,h]
theorem qom {l:List Nat} (h:l.Nodup) {a c:Nat} (ha:a<l.length) (hc:c<l.length) (e:l[a]=l[c]):a=c:=by
 have:=List.pairwise_iff_getElem.mp h
 rcases Nat.lt_trichotomy a c with q|q|q
 ·exact absurd e (this a c ha hc q)
 ·exact q
 ·exact absurd e.symm (this c a hc ha q)
theorem Inv.jinj {G:Gh} {S:Sub} {m:Mc} {w:World} (i:Inv G S m w) {a c b b':Nat} (h:G.J[a]? =some b) (h':G.J[c]? =some b'):(b==b')=(a==c):=by
 by_cases e:a=c
 ·subst e;rw [h]at h';cases h';simp
 ·have:b≠b':=fun eb=>by
   subst eb
   obtain⟨l1,e1⟩:=List.getElem?_eq_some_iff.mp h
   obtain⟨l2,e2⟩:=List.getElem?_eq_some_iff.mp h'
   exact e (qom i.jn l1 l2 (e1.trans e2.symm))
  rw [beq_eq_false_iff_ne.mpr this,beq_eq_false_iff_ne.mpr e]
end
section
open Sc
theorem qe1 (a b:ByteArray):(a==b)=(a.data.toList==b.data.toList):=by
 have e1:(a==b)=decide (a=b):=by
  rcases a with⟨a⟩;rcases b with⟨b⟩
  have:((⟨a⟩:ByteArray)==⟨b⟩)=(a==b):=rfl
  rw [this]
  by_cases e:a=b
  ·subst e;simp
  ·simp [e]
 rw [e1]
 by_cases e:a=b
 ·subst e;simp
 ·have h:a.data.toList≠b.data.toList:=fun h=>e (by
   rcases a with⟨a⟩;rcases b with⟨b⟩;exact congrArg ByteArray.mk (Array.toList_inj.mp h))
  rw [beq_eq_false_iff_ne.mpr h];simp [e]
def Pm.mark (p:Pm):Nat×Nat×Nat:=(p.form,p.wrapF,if p.form=2 then 0 else p.workF)
theorem Pm.mark_inj (p q:Pm) (hp:p.form≤2) (hm:Pm.mark p=Pm.mark q):p=q:=by
 revert hp hm
 cases p <;> cases q <;> first|(intro _ _;rfl)|(intro hp hm;exfalso;revert hp hm;decide)
theorem Pm.name_inj (p q:Pm) (h:p.name=q.name):p=q:=by
 revert h
 cases p <;> cases q <;> first|(intro _;rfl)|(intro h;exfalso;revert h;decide)
end
section
open Sc
theorem PRep.inj {G:Gh} {p q:Pm} {x:Value} (hp:PRep G p x) (hq:PRep G q x):p=q:=by
 cases hp with
 |bare a hf h=>
  generalize ex:Value.func (.func p.wrapF) #[] #[bp a]=x at hq
  cases hq with
  |bare a' hf' h'=>
   injection ex with e1 _ e2;injection e1 with e1
   have:a=a':=by simpa [bp]using e2
   subst this;rw [h]at h';simp at h'
   exact Pm.mark_inj _ _ (by omega) (by simp [Pm.mark,hf,hf',e1,h'.1])
  |mach a' r hf' h' hr=>
   injection ex with e1 _ e2
   have:a=a':=by simpa [bp]using e2
   subst this;rw [h]at h';simp at h'
  |self a' hf' h'=>
   injection ex with e1 _ e2
   have:a=a':=by simpa [bp]using e2
   subst this;rw [Gh.mbox,h]at h';simp [bp]at h'
 |mach a r hf h hr=>
  generalize ex:Value.func (.func p.wrapF) #[] #[bp a]=x at hq
  cases hq with
  |bare a' hf' h'=>
   injection ex with e1 _ e2
   have:a=a':=by simpa [bp]using e2
   subst this;rw [h]at h';simp at h'
  |mach a' r' hf' h' hr'=>
   injection ex with e1 _ e2;injection e1 with e1
   have:a=a':=by simpa [bp]using e2
   subst this;rw [h]at h';simp at h'
   exact Pm.mark_inj _ _ (by omega) (by simp [Pm.mark,hf,hf',e1,h'.1])
  |self a' hf' h'=>
   injection ex with e1 _ e2
   have:a=a':=by simpa [bp]using e2
   subst this;rw [Gh.mbox,h]at h';simp [bp]at h'
 |self a hf h=>
  generalize ex:Value.func (.func p.wrapF) #[] #[bp a]=x at hq
  cases hq with
  |bare a' hf' h'=>
   injection ex with e1 _ e2
   have:a=a':=by simpa [bp]using e2
   subst this;rw [Gh.mbox,h']at h;simp [bp]at h
  |mach a' r' hf' h' hr'=>
   injection ex with e1 _ e2
   have:a=a':=by simpa [bp]using e2
   subst this;rw [Gh.mbox,h']at h;simp [bp]at h
  |self a' hf' h'=>
   injection ex with e1 _ e2;injection e1 with e1
   exact Pm.mark_inj _ _ (by omega) (by simp [Pm.mark,hf,hf',e1])
theorem QRep.cells {G:Gh} {v:Vl} {b:Nat} (h:QRep G v b):∃x,G.I b=some (.cells #[x] 300 (0,0)):=by
 cases h with
 |lam _ _ _ _ _ _ _ _ _ _ _ _ _ _ hb=>exact⟨_,hb⟩
 |prim _ _ hb=>exact⟨_,hb⟩
 |cont _ _ _ _ _ _ _ _ _ _ hb=>exact⟨_,hb⟩
theorem PRep.form {G:Gh} {p:Pm} {x:Value} (h:PRep G p x):p.form≤2∧∃q,x=.func (.func p.wrapF) #[] #[bp q]:=by
 cases h <;> exact⟨by omega,_,rfl⟩
theorem QRep.same {G:Gh} {S:Sub} {m:Mc} {w:World} (i:Inv G S m w) {v u:Vl} {b b':Nat} (h:QRep G v b) (h':QRep G u b'):(b==b')=eq v u:=by
 cases h with
 |lam sh id n r l env _ q1 q2 q3 xl xb pf hj hb=>
  cases h' with
  |lam sh' id' n' r' l' env' _ q1' q2' q3' xl' xb' pf' hj' hb'=>exact i.jinj hj hj'
  |prim p x hb' hp=>
   show(b==_)=false
   refine beq_eq_false_iff_ne.mpr fun e=>?_
   rw [←e,hb]at hb'
   obtain⟨hf,q,rfl⟩:=hp.form
   simp at hb'
  |cont id' k ws _ q1' q2' q3' u wp hj' hb'=>
   refine beq_eq_false_iff_ne.mpr fun e=>?_
   rw [←e,hb]at hb';simp at hb'
 |prim p x hb hp=>
  obtain⟨hf,q,hx⟩:=hp.form
  cases h' with
  |lam sh' id' n' r' l' env' _ q1' q2' q3' xl' xb' pf' hj' hb'=>
   refine beq_eq_false_iff_ne.mpr fun e=>?_
   rw [←e,hb,hx]at hb';simp at hb'
  |prim p' x' hb' hp'=>
   show _=(p.name==p'.name)
   by_cases e:p=p'
   ·subst e;simp
   ·have h1:p.name≠p'.name:=fun h=>e (Pm.name_inj _ _ h)
    have h2:G.P p≠G.P p':=fun h=>by
     rw [h,hb']at hb;simp at hb;subst hb;exact e (hp.inj hp')
    rw [beq_eq_false_iff_ne.mpr h1,beq_eq_false_iff_ne.mpr h2]
  |cont id' k ws _ q1' q2' q3' u wp hj' hb'=>
   refine beq_eq_false_iff_ne.mpr fun e=>?_
   rw [←e,hb,hx]at hb';simp at hb'
 |cont id k ws _ q1 q2 q3 u wp hj hb=>
  cases h' with
  |lam sh' id' n' r' l' env' _ q1' q2' q3' xl' xb' pf' hj' hb'=>
   refine beq_eq_false_iff_ne.mpr fun e=>?_
   rw [←e,hb]at hb';simp at hb'
  |prim p x hb' hp=>
   refine beq_eq_false_iff_ne.mpr fun e=>?_
   rw [←e,hb]at hb'
   obtain⟨hf,q,rfl⟩:=hp.form
   simp at hb'
  |cont id' k' ws' _ q1' q2' q3' u' wp' hj' hb'=>exact i.jinj hj hj'
end
section
open Sc
theorem VRep.same {G:Gh} {S:Sub} {m:Mc} {w:World} (i:Inv G S m w) {v u:Vl} {x y:Value} (h:VRep G v x) (h':VRep G u y):(binOp .eql 116 x y).run prog w=.ok (.bool (eq v u)) w:=by
 cases h with
 |num n h0 h1=>
  cases h' with
  |num n' _ _=>exact qst _ _ w
  |proc v b h=>rw [qaw _ _ _ _ (by decide)];cases h <;> rfl
  |_=>exact qaw _ _ _ _ (by decide) w
 |bool b=>
  cases h' with
  |bool b'=>exact qdd _ _ w
  |proc v b h=>rw [qaw _ _ _ _ (by decide)];cases h <;> rfl
  |_=>exact qaw _ _ _ _ (by decide) w
 |str t _=>
  cases h' with
  |str t' _=>rw [qss,qe1];rfl
  |proc v b h=>rw [qaw _ _ _ _ (by decide)];cases h <;> rfl
  |_=>exact qaw _ _ _ _ (by decide) w
 |sym t _=>
  cases h' with
  |sym t' _=>rw [qsr,qe1];rfl
  |proc v b h=>rw [qaw _ _ _ _ (by decide)];cases h <;> rfl
  |_=>exact qaw _ _ _ _ (by decide) w
 |nil=>
  cases h' with
  |nil=>exact qkv w
  |proc v b h=>rw [qaw _ _ _ _ (by decide)];cases h <;> rfl
  |_=>exact qaw _ _ _ _ (by decide) w
 |none=>
  cases h' with
  |none=>exact qpe w
  |proc v b h=>rw [qaw _ _ _ _ (by decide)];cases h <;> rfl
  |_=>exact qaw _ _ _ _ (by decide) w
 |pair id b _ _ _ _ hj hb=>
  cases h' with
  |pair id' b' _ _ _ _ hj' hb'=>rw [qsw _ _ w (i.imm hb) (i.imm hb'),i.jinj hj hj'];rfl
  |proc v b h=>rw [qaw _ _ _ _ (by decide)];cases h <;> rfl
  |_=>exact qaw _ _ _ _ (by decide) w
 |proc v b hq=>
  cases h' with
  |proc u b' hq'=>
   obtain⟨z,hz⟩:=hq.cells
   obtain⟨z',hz'⟩:=hq'.cells
   rw [qsv _ _ w (i.imm hz) (i.imm hz'),hq.same i hq']
  |_=>rw [qaw _ _ _ _ (by decide)];cases hq <;> rfl
 |«seal» id b q v x hj hb=>
  cases h' with
  |«seal» id' b' q' v' x' hj' hb'=>rw [qd4 _ _ w (i.imm hb) (i.imm hb'),i.jinj hj hj'];rfl
  |sealD id' b' q1 q2 d e hj' hb'=>
   rw [qd4 _ _ w (i.imm hb) (i.imm hb')]
   have:b≠b':=fun e=>by rw [←e,hb]at hb';simp at hb'
   rw [beq_eq_false_iff_ne.mpr this];rfl
  |proc v b h=>rw [qaw _ _ _ _ (by decide)];cases h <;> rfl
  |_=>exact qaw _ _ _ _ (by decide) w
 |sealD id b q1 q2 d e hj hb=>
  cases h' with
  |«seal» id' b' q' v' x' hj' hb'=>
   rw [qd4 _ _ w (i.imm hb) (i.imm hb')]
   have:b≠b':=fun e=>by rw [←e,hb]at hb';simp at hb'
   rw [beq_eq_false_iff_ne.mpr this];rfl
  |sealD id' b' q1' q2' d' e' hj' hb'=>rw [qd4 _ _ w (i.imm hb) (i.imm hb'),i.jinj hj hj'];rfl
  |proc v b h=>rw [qaw _ _ _ _ (by decide)];cases h <;> rfl
  |_=>exact qaw _ _ _ _ (by decide) w
 |grant n hk=>
  cases h' with
  |grant n' hk'=>
   rw [qsu _ _ w (i.imm hk) (i.imm hk')]
   show _=Result.ok (Value.bool (n==n')) w
   by_cases e:n=n'
   ·subst e;simp
   ·have:G.K n≠G.K n':=fun h=>by rw [h,hk']at hk;simp at hk;omega
    rw [beq_eq_false_iff_ne.mpr this,beq_eq_false_iff_ne.mpr e]
  |proc v b h=>rw [qaw _ _ _ _ (by decide)];cases h <;> rfl
  |_=>exact qaw _ _ _ _ (by decide) w
theorem eq_w (x y:Value) (b:Bool) (w:World) (h:∀w',Lk w w'→(binOp .eql 116 x y).run prog w'=.ok (.bool b) w') (t u:Nat) (x' y':Value) (hx:x=.iface t x') (hy:y=.iface u y'):Calls prog 196 #[x,y] w fun e w'=>e=.returned (.iface 181 (.bool b))∧w'=w:=by
 subst hx hy
 have ha:=h w (by exact⟨rfl,rfl,rfl,rfl⟩)
 clear h
 go_enter func196,ntmps196
 go_wp2
 go_ret
 exact⟨rfl,rfl⟩
theorem eq_work {S:Sub} (m:Mc) (H:Gh) (w:World) (v u:Vl) (x y:Value) (i:Inv H S m w) (hv:VRep H v x) (hu:VRep H u y):Calls prog 196 (#[x,y]++#[]) w (WorkOk H S (value S m .eqQ [v,u])):=by
 obtain⟨t,x',rfl⟩:=hv.form
 obtain⟨s,y',rfl⟩:=hu.form
 refine Calls.mono (eq_w _ _ (eq v u) w (fun w' hw=>(hv.same (Inv.lk hw i) hu)) _ _ _ _ rfl rfl) ?_
 rintro e w' ⟨rfl,rfl⟩
 exact WorkOk.bool rfl i
end
section
open Sc
theorem LRow.two {G:Gh} {h:Array Obj} {sa:Option Addr} {sc:Nat} {v u:Vl} (hr:LRow G h (.slice sa 2 sc) [v,u]):∃g o arr x y,sa=some ⟨g,o,none⟩∧2≤sc∧2≤1000000∧h[g]? =some (.cells arr 116 (0,0))∧g∉G.mut∧G.I g=none∧arr[o]? =some x∧VRep G v x∧arr[o+1]? =some y∧VRep G u y:=by
 rcases hr with⟨h,_⟩|⟨g,o,cap,arr,e,hne,hc1,hc2,hg,hgm,hgi,hgf,hx⟩
 ·simp at h
 ·cases e
  obtain⟨x,h1,h2⟩:=hx 0 v rfl
  obtain⟨y,h3,h4⟩:=hx 1 u rfl
  exact⟨g,o,arr,x,y,rfl,by simpa using hc1,hc2,hg,hgm,hgi,h1,h2,h3,h4⟩
theorem qbz {S:Sub} {n:Nat} (p:Pm) (f:Nat) (cw:Array Value) (ef:Eg f) (hk0:p.kinds=[.any,.any]) (hg0:p.grant=0) (hil:p.isList=false) (hc:Plain S p)
  (G:Gh) (m:Mc) (w:World) (al:List Vl) (k:List Fr) (q ku tq:Nat) (cu:Array Value) (sa:Option Addr) (sn sc:Nat)
  (hwork:∀(H:Gh) (w':World) (v u:Vl) (x y:Value),G.up H→Inv H S m w'→VRep H v x→VRep H u y→Calls prog f (#[x,y]++cw) w' (WorkOk H S (value S m p [v,u])))
  (i:Inv G S m w) (hq:G.I q=some (.cells #[.func (.func f) #[] cw] tq (0,0))) (hk:FRep G k (.func (.func ku) #[] cu)) (hr:LRow G w.heap (.slice sa sn sc) al) (he:Ct.ended (go S (n+1) (.ap (.prim p) al k) m).1=true):
  Calls prog 270 (#[.slice sa sn sc,.func (.func ku) #[] cu]++#[bp q]) w (PostS G S (n+1) (.ap (.prim p) al k) m):=by
 have hsn:sn=al.length:=by
  rcases hr with⟨rfl,a,cap,h⟩|⟨g,o,cap,arr,h,_⟩
  ·cases h;rfl
  ·cases h;rfl
 by_cases hlen:sn=2
 ·subst hlen
  obtain⟨v,u,rfl⟩:∃v u,al=[v,u]:=by
   match al,hsn with
   | [a,b],_=>exact⟨a,b,rfl⟩
  obtain⟨g,o,arr,x,y,rfl,hc1,hc2,hg,hgm,hgi,hx1,hv,hy1,hu⟩:=hr.two
  have hcar:Sc.next S (.ap (.prim p) [v,u] k) m=(match value S m p [v,u]with
    |(.error e,m)=>(.stop e,m)
    |(.ok v,m)=>(.ret v k,m)):=by
   show carry S (.prim p) [v,u] k m=_
   rw [hc];simp [hk0,hg0,hil,Kd.ok] <;> rfl
  obtain⟨t,x',rfl⟩:=hv.form
  obtain⟨s,y',rfl⟩:=hu.form
  obtain⟨kk,ck,hku,egu⟩:=hk.isF
  cases hku
  refine qnf g o sc q f ku t s x' y' cw cu w _ ef egu PostS.ends hv.vty hu.vty (by simp only [World.cell?,hg];simpa using hx1) (by simp only [World.cell?,hg];simpa using hy1) (by rw [i.cell hq];rfl) ?_
  intro w' hw
  refine Calls.mono (hwork _ w' v u _ _ (Gh.up.refl G) (Inv.lk hw i) hv hu) ?_
  rintro e w1 (⟨H,v',m',z,e1,rfl,hu,hi,hx'⟩|⟨vd,m',e1,rfl,hcn⟩)
  ·rw [e1]at hcar
   rw [qan hcar rfl]at he
   obtain⟨t',z',rfl⟩:=hx'.form
   refine .inl ⟨t',z',rfl,fun w2 hw2=>?_⟩
   exact Calls.mono ((qav S n).2 H m' w2 v' k _ ku cu (Inv.lk hw2 hi) hx' (hk.mono hu.le) he) fun e w p=>Post.stepS hcar rfl hu p
  ·rw [e1]at hcar
   exact .inr ⟨⟨_,rfl⟩,Post.stepS hcar rfl (Gh.up.refl _) (Post.now (.stop vd m' w1 hcn))⟩
 ·have hnx:Sc.next S (.ap (.prim p) al k) m=(.stop 7,m):=by
   show carry S (.prim p) al k m=_
   rw [hc]
   have:al.length≠2:=by omega
   simp [hk0,hil,this]
  obtain⟨xs,_,hxl,_,_,_,hx6⟩:=hr.vals
  refine Calls.mono (qlc sa sn sc q ku cu w (by omega) hlen) ?_
  rintro e w' ⟨rfl,o',rfl⟩
  exact Post.stepS hnx rfl (Gh.up.refl G) (Post.now (.stop 7 _ _ (i.cntB (Nat.le_refl _) ((Below.refl _ _).alloc (Nat.le_refl _) _))))
end
section
open Sc
theorem cons_ok (r mb cb tx ty:Nat) (t mo:Int) (x y:Value) (w:World)
  (h1:w.cell? ⟨r,0,none⟩=some (.pointer (some ⟨mb,0,none⟩))) (h2:w.cell? ⟨mb,1,none⟩=some (.pointer (some ⟨cb,0,none⟩))) (hM:Mt cb t mo 11 w) (h0:0≤t) (ht:t+1≤mo) (hm:mo≤1000000):
  Calls prog 199 #[.iface tx x,.iface ty y,.pointer (some ⟨r,0,none⟩)] w fun e w'=>e=.returned (.iface 246 (.pointer (some ⟨w.heap.size,0,none⟩)))∧Lk ((w.setCell ⟨cb,0,none⟩ (.int .i64 (t+1))).alloc (.cells #[.iface tx x,.iface ty y] 252)) w':=by
 have HT:=hZ (qba cb t mo 11 1 w hM h0 ht (by omega) hm)
 clear hM
 go_enter func199,ntmps199
 go_wp2_with (go_at_call 200;refine HT.out.mono ?_;rintro e w2 ⟨rfl,n,rfl⟩)
 go_wp2
 go_ret
 exact⟨rfl,⟨rfl,rfl,rfl,rfl⟩⟩
theorem qs6 (r mb cb tx ty:Nat) (t:Int) (x y:Value) (w:World)
  (h1:w.cell? ⟨r,0,none⟩=some (.pointer (some ⟨mb,0,none⟩))) (h2:w.cell? ⟨mb,1,none⟩=some (.pointer (some ⟨cb,0,none⟩))) (hM:Mt cb t t 11 w) (h0:0≤t) (hm:t≤1000000):
  Calls prog 199 #[.iface tx x,.iface ty y,.pointer (some ⟨r,0,none⟩)] w fun e w'=>e=.panicked (stopP (stopV 11))∧Below w.heap.size (w.setCell ⟨cb,0,none⟩ (.int .i64 t)) w':=by
 have HT:=hZ (qa1 cb t t 11 1 w hM h0 (by omega) (by omega) (by omega) hm)
 clear hM
 go_enter func199,ntmps199
 go_wp2_with (go_at_call 200;refine HT.out.mono ?_;rintro e w2 ⟨rfl,hb⟩)
 exact⟨rfl,rfl,hb⟩
end
section
open Sc
theorem qp0 {S:Sub} (m:Mc) (H:Gh) (w:World) (v u:Vl) (x y:Value) (r:Nat) (hr:H.mbox r) (i:Inv H S m w) (hv:VRep H v x) (hu:VRep H u y):Calls prog 199 (#[x,y]++#[bp r]) w (WorkOk H S (value S m .cons [v,u])):=by
 have c1:w.cell? ⟨r,0,none⟩=some (.pointer (some ⟨H.mb,0,none⟩)):=by rw [i.cell hr];rfl
 obtain⟨t,x',rfl⟩:=hv.form
 obtain⟨s,y',rfl⟩:=hu.form
 by_cases hce:(m.cells:Int)<S.quota
 ·have ic:=i.cells (m.cells+1) (by push_cast;omega)
  have ic:Inv H S {m with cells:=m.cells+1} (w.setCell ⟨H.cb,0,none⟩ (.int .i64 ((m.cells:Int)+1))):=by simpa using ic
  refine Calls.mono (cons_ok r H.mb H.cb t s m.cells S.quota x' y' w c1 i.mb1 i.ce (by omega) (by omega) (by have:=i.cl.2;omega)) ?_
  rintro e w' ⟨rfl,hw⟩
  have io:=ic.newObj (.cells #[.iface t x',.iface s y'] 252)
  have xo:=ic.ext_newObj (.cells #[.iface t x',.iface s y'] 252)
  have ao:=ic.at_newObj (.cells #[.iface t x',.iface s y'] 252)
  have hz0:(w.setCell ⟨H.cb,0,none⟩ (.int .i64 ((m.cells:Int)+1))).heap.size=w.heap.size:=qaf
  rw [hz0]at io xo ao
  exact .inl ⟨_,_,_,_,by simp [value,new,Sc.cell,hce],rfl,xo.up,Inv.lk hw io,.pair m.ids w.heap.size v u _ _ ao (Gh.add_at _ _ _) (hv.mono xo.le) (hu.mono xo.le)⟩
 ·have hm:(m.cells:Int)=S.quota:=by have:(m.cells:Int)≤S.quota:=i.cl.1;omega
  have hM:Mt H.cb m.cells S.quota 11 w:=i.ce
  rw [←hm]at hM
  refine Calls.mono (qs6 r H.mb H.cb t s m.cells x' y' w c1 i.mb1 hM (by omega) (by have:=i.cl.2;omega)) ?_
  rintro e w' ⟨rfl,hb⟩
  have i1:=i.cells m.cells (by omega)
  exact .inr ⟨11,m,by simp [value,new,Sc.cell,hce],rfl,i1.cntB (by rw [qaf];exact Nat.le_refl _) hb⟩
end
end Go.Proofs.YtldaocpojcfljaaGreatDoor
