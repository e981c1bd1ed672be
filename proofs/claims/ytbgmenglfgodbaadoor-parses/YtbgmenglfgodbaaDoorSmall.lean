/-
  OUR OWN. The small functions of packages datum and read.
-/
import Derived.Test.YtbgmenglfgodbaaDoorSkip
namespace Go.Proofs.YtbgmenglfgodbaaDoor
open Go.RowKit

theorem _root_.Go.RowKit.Below.drewN' {B : Nat} {a w : World} (h : Below B a w) (n : Nat) : Below B a (w.drewN n) := ⟨h.os, h.tape, h.output, h.size, h.block⟩

theorem Bset {B : Nat} {a w : World} {g o : Nat} {v : Value} (h : Below B a w) (hg : B ≤ g) : Below B a (w.setCell ⟨g, o, none⟩ v) := h.setCell (p := ⟨g, o, none⟩) hg v
theorem B6 {B : Nat} {a w : World} {g : Nat} (h : Below B a w) (hg : B ≤ g) (v0 v1 v2 v3 v4 v5 : Value) : Below B a ((((((w.setCell ⟨g, 0, none⟩ v0).setCell ⟨g, 1, none⟩ v1).setCell ⟨g, 2, none⟩ v2).setCell ⟨g, 3, none⟩ v3).setCell ⟨g, 4, none⟩ v4).setCell ⟨g, 5, none⟩ v5) :=
  Bset (Bset (Bset (Bset (Bset (Bset h hg) hg) hg) hg) hg) hg
theorem heap_B6 (w : World) (g k : Nat) (hk : k ≠ g) (v0 v1 v2 v3 v4 v5 : Value) : ((((((w.setCell ⟨g, 0, none⟩ v0).setCell ⟨g, 1, none⟩ v1).setCell ⟨g, 2, none⟩ v2).setCell ⟨g, 3, none⟩ v3).setCell ⟨g, 4, none⟩ v4).setCell ⟨g, 5, none⟩ v5).heap[k]? = w.heap[k]? := by
  rw [Below.heap_setCell _ _ _ _ hk, Below.heap_setCell _ _ _ _ hk, Below.heap_setCell _ _ _ _ hk, Below.heap_setCell _ _ _ _ hk, Below.heap_setCell _ _ _ _ hk, Below.heap_setCell _ _ _ _ hk]

/-- Block g is a box for a datum. -/
structure Box (g : Nat) (w : World) : Prop where
  c0 : ∃ v, w.cell? ⟨g, 0, none⟩ = some v
  c1 : ∃ v, w.cell? ⟨g, 1, none⟩ = some v
  c2 : ∃ v, w.cell? ⟨g, 2, none⟩ = some v
  c3 : ∃ v, w.cell? ⟨g, 3, none⟩ = some v
  c4 : ∃ v, w.cell? ⟨g, 4, none⟩ = some v
  c5 : ∃ v, w.cell? ⟨g, 5, none⟩ = some v
  fz : ∀ o, w.frozen? ⟨g, o, none⟩ = false
theorem Box.of {g : Nat} {w : World} {v0 v1 v2 v3 v4 v5 : Value} (h : w.heap[g]? = some (.cells #[v0, v1, v2, v3, v4, v5] 39 (0, 0))) : Box g w :=
  ⟨⟨v0, by simp [World.cell?, h]⟩, ⟨v1, by simp [World.cell?, h]⟩, ⟨v2, by simp [World.cell?, h]⟩, ⟨v3, by simp [World.cell?, h]⟩, ⟨v4, by simp [World.cell?, h]⟩, ⟨v5, by simp [World.cell?, h]⟩, fun o => by simp [World.frozen?, h]⟩
theorem below_2d (w : World) (o1 o2 : Obj) (n : Nat) : Below w.heap.size w (((w.alloc o1).alloc o2).drewN n) :=
  (((Below.refl _ _).alloc (Nat.le_refl _) _).alloc (by simp) _).drewN' _

/-- A datum as Go has it, in a value. -/
structure El where
  k : Int
  n : Int
  tr : Bool
  tx : ByteArray
  m : Int
  a : Option Addr
  len : Nat
  cap : Nat

abbrev El.v (e : El) : Value := .agg #[.int .i64 e.k, .int .i64 e.n, .bool e.tr, .string e.tx, .int .i64 e.m, .slice e.a e.len e.cap]
abbrev El.nil : El := ⟨0, 0, false, ⟨#[]⟩, 0, none, 0, 0⟩

set_option maxHeartbeats 400000 in
theorem ofList_any (a : Option Addr) (len cap : Nat) (w : World) :
    Calls Tryd.prog 45 #[.slice a len cap] w fun e w' => e = .returned (El.v ⟨4, 0, false, ⟨#[]⟩, 0, a, len, cap⟩) ∧ Below w.heap.size w w' := by
  go_enter Tryd.func45, Tryd.ntmps45
  go_wp2
  exact bodyPost_ret (v := El.v ⟨4, 0, false, ⟨#[]⟩, 0, a, len, cap⟩) (by simp [results, Tryd.results45, go_sem]) rfl ⟨rfl, (Below.refl _ _).alloc (Nat.le_refl _) _⟩

set_option maxHeartbeats 400000 in
theorem ofSymbol_any (tx : ByteArray) (w : World) :
    Calls Tryd.prog 46 #[.string tx] w fun e w' => e = .returned (El.v ⟨3, 0, false, tx, 0, none, 0, 0⟩) ∧ Below w.heap.size w w' := by
  go_enter Tryd.func46, Tryd.ntmps46
  go_wp2
  exact bodyPost_ret (v := El.v ⟨3, 0, false, tx, 0, none, 0, 0⟩) (by simp [results, Tryd.results46, go_sem]) rfl ⟨rfl, (Below.refl _ _).alloc (Nat.le_refl _) _⟩

set_option maxHeartbeats 400000 in
theorem ofString_any (tx : ByteArray) (w : World) :
    Calls Tryd.prog 48 #[.string tx] w fun e w' => e = .returned (El.v ⟨2, 0, false, tx, 0, none, 0, 0⟩) ∧ Below w.heap.size w w' := by
  go_enter Tryd.func48, Tryd.ntmps48
  go_wp2
  exact bodyPost_ret (v := El.v ⟨2, 0, false, tx, 0, none, 0, 0⟩) (by simp [results, Tryd.results48, go_sem]) rfl ⟨rfl, (Below.refl _ _).alloc (Nat.le_refl _) _⟩

set_option maxHeartbeats 400000 in
theorem ofTruth_any (b : Bool) (w : World) :
    Calls Tryd.prog 50 #[.bool b] w fun e w' => e = .returned (El.v ⟨1, 0, b, ⟨#[]⟩, 0, none, 0, 0⟩) ∧ Below w.heap.size w w' := by
  go_enter Tryd.func50, Tryd.ntmps50
  go_wp2
  exact bodyPost_ret (v := El.v ⟨1, 0, b, ⟨#[]⟩, 0, none, 0, 0⟩) (by simp [results, Tryd.results50, go_sem]) rfl ⟨rfl, (Below.refl _ _).alloc (Nat.le_refl _) _⟩

set_option maxHeartbeats 400000 in
theorem ofNumber_any (n : Int) (w : World) :
    Calls Tryd.prog 55 #[.int .i64 n] w fun e w' => e = .returned (El.v ⟨0, n, false, ⟨#[]⟩, 0, none, 0, 0⟩) ∧ Below w.heap.size w w' := by
  go_enter Tryd.func55, Tryd.ntmps55
  go_wp2
  exact bodyPost_ret (v := El.v ⟨0, n, false, ⟨#[]⟩, 0, none, 0, 0⟩) (by simp [results, Tryd.results55, go_sem]) rfl ⟨rfl, (Below.refl _ _).alloc (Nat.le_refl _) _⟩

theorem new2 (w : World) (o1 o2 : Obj) : ((w.alloc o1).alloc o2).heap[w.heap.size + 1]? = some o2 := by
  have := heap_alloc_new (w.alloc o1) o2
  rwa [show (w.alloc o1).heap.size = w.heap.size + 1 from by simp] at this

set_option maxHeartbeats 400000 in
theorem fail_any (c p : Int) (w : World) :
    Calls Tryd.prog 25 #[.int .i64 c, .int .i64 p] w fun e w' => ∃ N, e = .returned (.tuple #[El.nil.v, .pointer (some ⟨N, 0, none⟩)]) ∧ w.heap.size ≤ N ∧ w'.heap[N]? = some (.cells #[.int .i64 c, .int .i64 p] 31 (0, 0)) ∧ Below w.heap.size w w' := by
  go_enter Tryd.func25, Tryd.ntmps25
  go_wp2
  exact bodyPost_ret (v := .tuple #[El.nil.v, .pointer (some ⟨w.heap.size + 1, 0, none⟩)]) (by simp [results, Tryd.results25, go_sem]) rfl ⟨_, rfl, by omega, new2 _ _ _, ((Below.refl _ _).alloc (Nat.le_refl _) _).alloc (by simp) _⟩

theorem digB_iff (c : UInt8) : Px.digB c = (decide (48 ≤ (c.toNat : Int)) && decide ((c.toNat : Int) ≤ 57)) := by
  unfold Px.digB; rw [Bool.eq_iff_iff]; simp; omega

set_option maxHeartbeats 400000 in
theorem isDigit_any (c : UInt8) (w : World) :
    Calls Tryd.prog 51 #[.int .u8 (c.toNat : Int)] w fun e w' => e = .returned (.bool (Px.digB c)) ∧ w' = w := by
  rw [digB_iff]
  go_enter Tryd.func51, Tryd.ntmps51
  go_wp2
  all_goals go_ret
  all_goals exact ⟨by simp [*] <;> omega, rfl⟩

theorem strB_iff (c : UInt8) : Px.strB c = (decide (32 ≤ (c.toNat : Int)) && decide ((c.toNat : Int) ≤ 126) && !((c.toNat : Int) == 34) && !((c.toNat : Int) == 92)) := by
  unfold Px.strB; rw [Bool.eq_iff_iff]; simp; omega

set_option maxHeartbeats 400000 in
theorem isStringByte_any (c : UInt8) (w : World) :
    Calls Tryd.prog 47 #[.int .u8 (c.toNat : Int)] w fun e w' => e = .returned (.bool (Px.strB c)) ∧ w' = w := by
  rw [strB_iff]
  go_enter Tryd.func47, Tryd.ntmps47
  go_wp2
  all_goals go_ret
  all_goals refine ⟨?_, rfl⟩
  all_goals simp [*]
  all_goals first | omega | rfl

theorem endB_fin : ∀ n : Fin 256, decide (0 ≤ Lib.indexByte [32, 10, 40, 41, 39, 34, 59] (UInt8.ofNat n.val)) = Px.endB (UInt8.ofNat n.val) := by decide +kernel
theorem endB_iff (c : UInt8) : decide (0 ≤ Lib.indexByte [32, 10, 40, 41, 39, 34, 59] c) = Px.endB c := by
  have := endB_fin ⟨c.toNat, c.toNat_lt⟩
  simpa using this

set_option maxHeartbeats 400000 in
theorem mayStandBehind_any (c : UInt8) (w : World) :
    Calls Tryd.prog 61 #[.int .u8 (c.toNat : Int)] w fun e w' => e = .returned (.bool (Px.endB c)) ∧ w' = w := by
  rw [← endB_iff]
  go_enter Tryd.func61, Tryd.ntmps61
  go_wp2_with (go_at_call 52; refine (Tryd.strings_IndexByte _ _ _).mono ?_; rintro e w' ⟨rfl, rfl⟩)
  go_ret
  exact ⟨by simp, rfl⟩

theorem wordB_fin : ∀ n : Fin 256, Px.wordB (UInt8.ofNat n.val) = (decide (97 ≤ n.val ∧ n.val ≤ 122) || Px.digB (UInt8.ofNat n.val) || decide (0 ≤ Lib.indexByte [43, 45, 42, 47, 60, 62, 61, 63, 33, 95, 46, 58] (UInt8.ofNat n.val))) := by decide +kernel
theorem wordB_iff (c : UInt8) : Px.wordB c = (decide (97 ≤ c.toNat ∧ c.toNat ≤ 122) || Px.digB c || decide (0 ≤ Lib.indexByte [43, 45, 42, 47, 60, 62, 61, 63, 33, 95, 46, 58] c)) := by
  have := wordB_fin ⟨c.toNat, c.toNat_lt⟩
  simpa using this

set_option maxHeartbeats 400000 in
theorem isWordByte_any (c : UInt8) (w : World) :
    Calls Tryd.prog 31 #[.int .u8 (c.toNat : Int)] w fun e w' => e = .returned (.bool (Px.wordB c)) ∧ w' = w := by
  have HW : Hid (Px.wordB c = (decide (97 ≤ c.toNat ∧ c.toNat ≤ 122) || Px.digB c || decide (0 ≤ Lib.indexByte [43, 45, 42, 47, 60, 62, 61, 63, 33, 95, 46, 58] c))) := wordB_iff c
  cases hd : Px.digB c
  all_goals
    go_enter Tryd.func31, Tryd.ntmps31
    go_wp2_with (first | (go_at_call 51; refine (isDigit_any c _).mono ?_; rintro e w' ⟨rfl, rfl⟩) | (go_at_call 52; refine (Tryd.strings_IndexByte _ _ _).mono ?_; rintro e w' ⟨rfl, rfl⟩))
    all_goals go_ret
    all_goals refine ⟨?_, rfl⟩
    all_goals rw [HW.out]
    all_goals simp [*]
    all_goals first | omega | (rw [Bool.eq_iff_iff]; simp; omega)

set_option maxHeartbeats 400000 in
theorem closed_ok (b : Nat) (s : ByteArray) (p d : Nat) (x : El) (w : World) (h : Rd b s p d w) (hp : ∀ hlt : p < s.size, Px.endB s[p] = true) (hps : p ≤ s.size) :
    Calls Tryd.prog 49 #[.pointer (some ⟨b, 0, none⟩), x.v] w fun e w' => e = .returned (.tuple #[x.v, .pointer none]) ∧ Below w.heap.size w w' := by
  obtain ⟨k, n, tr, tx, m, a, len, cap⟩ := x
  have h0 := h.c0
  have h1 := h.c1
  have HR : Hid (Rd b s p d w) := h
  have hb := h.lt
  clear h
  by_cases hlt : p < s.size
  · have hd : ((p : Int) == (s.size : Int)) = false := by simp; omega
    have he := hp hlt
    clear hp
    go_enter Tryd.func49, Tryd.ntmps49
    go_wp2
    go_quiet ((first | (go_at_call 15; exact Calls.quiet_of (ended_any b s p d _ (((HR.out.alloc _).alloc _).drewN _))) | (go_at_call 61; exact Calls.quiet_of_same (mayStandBehind_any _ _))))
    go_wp2
    refine bodyPost_ret (v := .tuple #[El.v ⟨k, n, tr, tx, m, a, len, cap⟩, .pointer none]) (by simp [results, Tryd.results49, go_sem]) rfl ⟨rfl, B6 (below_2d _ _ _ _) (by omega) _ _ _ _ _ _⟩
  · have hd : ((p : Int) == (s.size : Int)) = true := by simp; omega
    clear hp
    go_enter Tryd.func49, Tryd.ntmps49
    go_wp2
    go_quiet ((first | (go_at_call 15; exact Calls.quiet_of (ended_any b s p d _ (((HR.out.alloc _).alloc _).drewN _))) | (go_at_call 61; exact Calls.quiet_of_same (mayStandBehind_any _ _))))
    go_wp2
    refine bodyPost_ret (v := .tuple #[El.v ⟨k, n, tr, tx, m, a, len, cap⟩, .pointer none]) (by simp [results, Tryd.results49, go_sem]) rfl ⟨rfl, B6 (below_2d _ _ _ _) (by omega) _ _ _ _ _ _⟩

set_option maxHeartbeats 400000 in
theorem closed_bad (b : Nat) (s : ByteArray) (p d : Nat) (x : El) (w : World) (h : Rd b s p d w) (hlt : p < s.size) (he : Px.endB s[p] = false) :
    Calls Tryd.prog 49 #[.pointer (some ⟨b, 0, none⟩), x.v] w fun e w' => ∃ N, e = .returned (.tuple #[El.nil.v, .pointer (some ⟨N, 0, none⟩)]) ∧ w.heap.size ≤ N ∧ w'.heap[N]? = some (.cells #[.int .i64 2, .int .i64 p] 31 (0, 0)) ∧ Below w.heap.size w w' := by
  obtain ⟨k, n, tr, tx, m, a, len, cap⟩ := x
  have h0 := h.c0
  have h1 := h.c1
  have HR : Hid (Rd b s p d w) := h
  have hb := h.lt
  clear h
  have hd : ((p : Int) == (s.size : Int)) = false := by simp; omega
  go_enter Tryd.func49, Tryd.ntmps49
  go_wp2
  go_quiet ((first | (go_at_call 15; exact Calls.quiet_of (ended_any b s p d _ (((HR.out.alloc _).alloc _).drewN _))) | (go_at_call 61; exact Calls.quiet_of_same (mayStandBehind_any _ _))))
  go_wp2_with (go_at_call 25; refine (fail_any _ _ _).mono ?_; rintro e w' ⟨N, rfl, hN, hN2, hbl⟩; refine Hid.out ?_)
  refine Lib.hid ?_
  have hsz : w.heap.size + 2 ≤ N := by simpa using hN
  have hb2 : Below w.heap.size w w' := (below_2d w _ _ nq).trans (hbl.mono (by simp; omega))
  have hsz2 : N < w'.heap.size := (Array.getElem?_eq_some_iff.1 hN2).1
  have H2 : Hid (w'.heap[N]? = some (Obj.cells #[Value.int IntKind.i64 2, Value.int IntKind.i64 ↑p] 31)) := hN2
  have HB2 : Hid (Below w.heap.size w w') := hb2
  have hx : Box (w.heap.size + 1) w' := Box.of (by rw [hbl.block _ (by simp)]; exact new2 _ _ _)
  obtain ⟨⟨y0, k0⟩, ⟨y1, k1⟩, ⟨y2, k2⟩, ⟨y3, k3⟩, ⟨y4, k4⟩, ⟨y5, k5⟩, kf⟩ := hx
  clear hN hN2 hbl hb2
  go_wp2
  exact bodyPost_ret (v := .tuple #[El.nil.v, .pointer (some ⟨N, 0, none⟩)]) (by simp [results, Tryd.results49, go_sem, *]) rfl ⟨N, rfl, by omega, by rw [heap_B6 _ _ _ (by omega)]; exact H2.out, B6 HB2.out (by omega) _ _ _ _ _ _⟩

end Go.Proofs.YtbgmenglfgodbaaDoor
