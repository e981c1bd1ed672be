/-
  OUR OWN. Writing, byte by byte, to whatever takes the bytes: writeText.
-/
import Derived.RangeFuncNested
import Derived.RangeFuncBound
import Derived.RangeFuncCalls
import Derived.RangeFuncLeaves
import Derived.Shelf.Abstract
import Derived.Shelf.RegionOpen
import Derived.OwnWalkIn
import Derived.TacticsInMore
import Derived.LoopNIn
import Derived.LoopIn
import Derived.Test.YtbgmenglfgodbaaDoorTxt
namespace Go.Proofs.YtbgmenglfgodbaaDoor
open Go.RowKit Go.Shelf
attribute [local go_sem] Oper.semAt_some

/-- The variables' blocks are as they were; so are those below hi, but bb and rows of bytes. -/
structure Kp (bb hi : Nat) (W W' : World) : Prop where
  size : W.heap.size ≤ W'.heap.size
  low : ∀ g, g < 6 → W'.heap[g]? = W.heap[g]?
  blk : ∀ (k : Nat) (o : Obj), k < hi → k ≠ bb → W.heap[k]? = some o → (∀ c fz, o ≠ .cells c 5 fz) → W'.heap[k]? = some o
theorem Kp.refl (bb hi : Nat) (W : World) : Kp bb hi W W := ⟨Nat.le_refl _, fun _ _ => rfl, fun _ _ _ _ h _ => h⟩
theorem Kp.trans {bb hi : Nat} {A B C : World} (h : Kp bb hi A B) (k : Kp bb hi B C) : Kp bb hi A C :=
  ⟨Nat.le_trans h.size k.size, fun g hg => (k.low g hg).trans (h.low g hg), fun i o h1 h2 h3 h4 => k.blk i o h1 h2 (h.blk i o h1 h2 h3 h4) h4⟩
theorem Kp.gt {bb hi : Nat} {A B : World} (h : Kp bb hi A B) (hG : GT A) : GT B := by
  unfold GT Lib.TabIs World.var? at *
  simp only [pow10_no, Option.bind_some] at hG ⊢
  rw [h.low 0 (by omega)]; exact hG
theorem Kp.of {bb hi : Nat} {A B : World} (h : Below A.heap.size A B) (h6 : 6 ≤ A.heap.size) : Kp bb hi A B :=
  ⟨h.size, fun g hg => h.block g (by omega), fun k o _ _ h3 _ => by rw [h.block k (Array.getElem?_eq_some_iff.1 h3).1]; exact h3⟩

theorem room_of_none {F : Fence} (hd : F.depth = none) (k : Nat) : F.room k := fun d h => by rw [hd] at h; cases h
theorem RoundIn.anyDepth {F : Fence} (hd : F.depth = none) {m m' : Nat} {P : Program} {l : Nat} {f : FuncId} {tmps : Array Value} {assign body : Code} {w : World} {R : Ending → World → Prop}
    (h : RoundIn F m P l f tmps assign body w R) : RoundIn F m' P l f tmps assign body w R := ⟨h.1, fun c cs _ => h.2 c cs (room_of_none hd _)⟩
theorem YieldAt.anyDepth {F : Fence} (hd : F.depth = none) {m : Nat} (m' : Nat) {P : Program} {l : Nat} {args : Array Value} {W : World} {R : Ending → World → Prop} (h : YieldAt F m P l args W R) : YieldAt F m' P l args W R := by
  obtain ⟨fn, tmps, assign, body, hy, hR⟩ := h
  exact ⟨fn, tmps, assign, body, hy, RoundIn.anyDepth hd hR⟩

/-- What takes the bytes: J, so many have come; Jx, it wants no more. -/
structure Yl (l bb hi N : Nat) (J Jx : List UInt8 → World → Prop) : Prop where
  y : ∀ m pre (x : UInt8) W, J pre W → pre.length < N → YieldAt Fence.wide m Tryd.prog l #[.int .u8 (x.toNat : Int)] W fun e W' => (e = .returned (.bool true) ∧ J (pre ++ [x]) W' ∧ Kp bb hi W W') ∨ (e = .returned (.bool false) ∧ Jx (pre ++ [x]) W')
  grow : ∀ pre W W', J pre W → W.grownBy W' none → J pre W'

/-- What a writing function answers. -/
def Yd (bb hi : Nat) (J Jx : List UInt8 → World → Prop) (w : World) (pre t : List UInt8) (e : Ending) (W' : World) : Prop :=
  (e = .returned (.bool true) ∧ J (pre ++ t) W' ∧ Kp bb hi w W') ∨ (e = .returned (.bool false) ∧ ∃ q, q <+: t ∧ Jx (pre ++ q) W')

theorem take_byte (s : ByteArray) (k : Nat) (h : k < s.size) : s.data.toList.take (k + 1) = s.data.toList.take k ++ [s[k]] := by
  rw [List.take_succ_eq_append_getElem (by simpa using h)]; rfl

set_option maxRecDepth 100000 in
set_option maxHeartbeats 2000000 in
theorem writeText_in (l bb hi N : Nat) (J Jx : List UInt8 → World → Prop) (hY : Yl l bb hi N J Jx) (w : World) (s : ByteArray) (pre : List UInt8) (n : Nat) (W : World) (hK : Kp bb hi w W) (hJ : J pre W) (hN : pre.length + s.size ≤ N) (hN2 : N ≤ 1000000) :
    CallsIn Fence.wide n Tryd.prog 34 #[.string s, .func (.yield l) #[] #[]] W fun e W' => Yd bb hi J Jx w pre s.data.toList e W' := by
  have hdd : ∀ k : Nat, (Fence.wide.depth.isSome = true → 1 ≤ k) := fun k h => by cases h
  have HY := Lib.hid hY
  have HK := Lib.hid hK
  have HJ := Lib.hid hJ
  clear hY hK hJ
  refine callsIn_of_wp Tryd.func34 rfl trivial ?_ rfl
  simp only [Tryd.ntmps34, List.size_toArray, List.length_cons, List.length_nil, Nat.reduceAdd, Nat.reduceSub, Array.replicate_succ, Array.replicate_zero, List.push_toArray, List.append_toArray, List.nil_append, List.cons_append]
  gi_wp2
  gi_loopw [8] (fun i wr => ∃ k : Nat, k ≤ s.size ∧ i = .int .i64 (k : Int) ∧ J (pre ++ s.data.toList.take k) wr ∧ Kp bb hi w wr) (fun i _ => s.size - (intOf i).toNat)
  case atStart => exact ⟨0, Nat.zero_le _, rfl, by simpa using HJ.out, HK.out⟩
  case round =>
    obtain ⟨k, hk, rfl, hJk, hKk⟩ := hrel
    have HJk := Lib.hid hJk
    have HKk := Lib.hid hKk
    clear hJk hKk
    by_cases hlt : k < s.size
    · have hki : (k : Int) < (s.size : Int) := by omega
      have hyy := YieldAt.mono (R' := fun e W' => (e = .returned (.bool true) ∧ J (pre ++ s.data.toList.take (k + 1)) W' ∧ Kp bb hi w W') ∨ (e = .returned (.bool false) ∧ Jx (pre ++ s.data.toList.take (k + 1)) W'))
        (HY.out.y (n - 1) _ s[k] wr HJk.out (by have : s.data.toList.length = s.size := by simp
                                                simp; omega)) fun e W' h => h.elim
          (fun ⟨he, hj, hk'⟩ => .inl ⟨he, by rw [take_byte s k hlt, ← List.append_assoc]; exact hj, HKk.out.trans hk'⟩) (fun ⟨he, hj⟩ => .inr ⟨he, by rw [take_byte s k hlt, ← List.append_assoc]; exact hj⟩)
      obtain ⟨fn, tmps, assign, body, hy, hR⟩ := hyy
      gi_wp2_with ((try refine ⟨hdd _, ?_⟩); refine hR.mono ?_; clear hR; rintro e W2 (⟨rfl, hJ2, hK2⟩ | ⟨rfl, hx2⟩))
      · exact ⟨⟨k + 1, by omega, by first | rfl | go_num, hJ2, hK2⟩, by simp [intOf]; omega⟩
      · go_ret
        exact .inr ⟨rfl, _, List.take_prefix _ _, hx2⟩
    · have hke : k = s.size := by omega
      have HKe := Lib.hid hke
      have hki : ¬ ((k : Int) < (s.size : Int)) := by omega
      clear hke
      gi_wp2
      go_ret
      have := HJk.out
      rw [List.take_of_length_le (by rw [HKe.out]; simp)] at this
      exact .inl ⟨rfl, this, HKk.out⟩

end Go.Proofs.YtbgmenglfgodbaaDoor
