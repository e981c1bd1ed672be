/-
  OUR OWN. The walks of write and writePairs.
-/
import Derived.Test.YtbgmenglfgodbaaDoorYld
import Derived.Sort.LoopGhostIn
namespace Go.Proofs.YtbgmenglfgodbaaDoor
open Go.RowKit Go.Shelf
attribute [local go_sem] Oper.semAt_some
attribute [local go_sem] as_65_65 as_65_66 as_65_67 as_65_68 as_65_72 as_65_83 as_66_65 as_66_66 as_66_67 as_66_68 as_66_72 as_66_83 as_67_65 as_67_66 as_67_67 as_67_68 as_67_72 as_67_83 as_68_65 as_68_66 as_68_67 as_68_68 as_68_72 as_68_83 as_72_65 as_72_66 as_72_67 as_72_68 as_72_72 as_72_83 as_83_65 as_83_66 as_83_67 as_83_68 as_83_72 as_83_83
def Vt.sz : Vt → Nat
  | .pair a b => a.sz + b.sz + 1
  | _ => 0

/-- What write's call says of t. -/
def WrSaid (l bb lo N : Nat) (J Jx : List UInt8 → World → Prop) (w : World) (t : Vt) : Prop := ∀ (n : Nat) (v : Value) (pre : List UInt8) (W : World), VIn lo w t v → Kp bb w.heap.size w W → J pre W → pre.length + t.wr.length ≤ N →
  CallsIn Fence.wide n Tryd.prog 18 #[v, .func (.yield l) #[] #[]] W fun e W' => Yd bb w.heap.size J Jx w pre t.wr e W'

theorem VIn.kp {lo bb : Nat} {w W : World} (h : Kp bb w.heap.size w W) (hb : bb < lo) : ∀ {t : Vt} {v : Value}, VIn lo w t v → VIn lo W t v
  | .num _, _, hv => hv
  | .bool _, _, hv => hv
  | .str _, _, hv => hv
  | .sym _, _, hv => hv
  | .nil, _, hv => hv
  | .pair _ _, _, ⟨g, x, y, hv, hl, hh, ha, hc⟩ => ⟨g, x, y, hv, hl, h.blk g _ (Array.getElem?_eq_some_iff.1 hh).1 (by omega) hh (by intro c fz e; cases e), VIn.kp h hb ha, VIn.kp h hb hc⟩

theorem wr_atom (t : Vt) (h : ∀ a b, t ≠ .pair a b) : t.wr = t.atom := by
  cases t with
  | pair a b => exact absurd rfl (h a b)
  | _ => rfl
theorem tl_atom (t : Vt) (h : ∀ a b, t ≠ .pair a b) (h2 : t ≠ .nil) : t.tl = [32, 46, 32] ++ (t.wr ++ [41]) := by
  cases t with
  | pair a b => exact absurd rfl (h a b)
  | nil => exact absurd rfl h2
  | _ => rfl

set_option maxRecDepth 100000 in
set_option maxHeartbeats 2000000 in
theorem write_atom (l bb lo N : Nat) (J Jx : List UInt8 → World → Prop) (w : World) (hY : Yl l bb w.heap.size N J Jx) (hG : GT w) (h6 : 6 ≤ w.heap.size) (hN2 : N ≤ 100000) (hbl : bb < lo) (t : Vt) (hna : ∀ a b, t ≠ .pair a b) : WrSaid l bb lo N J Jx w t := by
  intro n v pre W hv hK hJ hN
  rw [wr_atom t hna] at hN ⊢
  have hdd : ∀ k : Nat, (Fence.wide.depth.isSome = true → 1 ≤ k) := fun k h => by cases h
  have HY := Lib.hid hY
  have HK := Lib.hid hK
  have HJ := Lib.hid hJ
  have HT := Lib.hid (textOf_any lo t v W (hv.kp hK hbl) (hK.gt hG) hna (by omega))
  have hp : ∃ tp p, v = .iface tp p ∧ (tp = 65 ∨ tp = 66 ∨ tp = 67 ∨ tp = 68 ∨ tp = 72) := by
    cases t with
    | pair a b => exact absurd rfl (hna a b)
    | num n => exact ⟨_, _, hv.1, by simp⟩
    | bool n => exact ⟨_, _, hv, by simp⟩
    | str n => exact ⟨_, _, hv, by simp⟩
    | sym n => exact ⟨_, _, hv, by simp⟩
    | nil => exact ⟨_, _, hv, by simp⟩
  have HSz : Hid (w.heap.size ≤ W.heap.size) := hK.size
  obtain ⟨tp, p, rfl, htp⟩ := hp
  have hW : ∀ W1, Below W.heap.size W W1 → CallsIn Fence.wide (n - 1) Tryd.prog 34 #[.string ⟨t.atom.toArray⟩, .func (.yield l) #[] #[]] W1 fun e W' => Yd bb w.heap.size J Jx w pre t.atom e W' := by
    intro W1 hb
    have h1 : Kp bb w.heap.size w W1 := HK.out.trans (Kp.of hb (by have := HSz.out; omega))
    have := writeText_in l bb w.heap.size N J Jx HY.out w ⟨t.atom.toArray⟩ pre (n - 1) W1 h1 (HY.out.grow pre W W1 HJ.out (grown_of_below hb)) (by simpa [ByteArray.size] using hN) (by omega)
    simpa using this
  have HW := Lib.hid hW
  clear hY hK hJ hv hG hW hna
  rcases htp with rfl | rfl | rfl | rfl | rfl
  all_goals
    refine callsIn_of_wp Tryd.func18 rfl trivial ?_ rfl
    simp only [Tryd.ntmps18, List.size_toArray, List.length_cons, List.length_nil, Nat.reduceAdd, Nat.reduceSub, Array.replicate_succ, Array.replicate_zero, List.push_toArray, List.append_toArray, List.nil_append, List.cons_append]
    gi_wp2_with (first
      | (refine ⟨trivial, hdd _, ?_⟩; gi_at_call 35; refine (callsIn_wide.2 HT.out).mono ?_; rintro e W1 ⟨rfl, hb1⟩; have HB1 := Lib.hid hb1; clear hb1)
      | (refine ⟨trivial, hdd _, ?_⟩; gi_at_call 34; refine (HW.out _ HB1.out).mono ?_; rintro e W2 (⟨rfl, hj, hk⟩ | ⟨rfl, hq⟩)))
    · go_ret
      exact .inl ⟨rfl, hj, hk⟩
    · go_ret
      exact .inr ⟨rfl, hq⟩

theorem pair_cells {w W : World} {lo bb g : Nat} {x y : Value} (hh : w.heap[g]? = some (.cells #[x, y] 89 (0, 0))) (hlo : lo ≤ g) (hbl : bb < lo) (hK : Kp bb w.heap.size w W) : W.cell? ⟨g, 0, none⟩ = some x ∧ W.cell? ⟨g, 1, none⟩ = some y := by
  have h : W.heap[g]? = some (.cells #[x, y] 89 (0, 0)) := hK.blk g _ (Array.getElem?_eq_some_iff.1 hh).1 (by omega) hh (by intro c fz e; cases e)
  constructor <;> simp [World.cell?, h]

theorem kp_alloc (bb hi : Nat) (W : World) (o : Obj) (h6 : 6 ≤ W.heap.size) : Kp bb hi W (W.alloc o) := Kp.of ((Below.refl _ _).alloc (Nat.le_refl _) _) h6

/-- Where the loop of writePairs is. -/
def PRel (bb lo : Nat) (J : List UInt8 → World → Prop) (w : World) (pre T : List UInt8) (B gf : Nat) (p : Value) (wr : World) : Prop :=
  ∃ (g : Nat) (x y : Value) (b : Vt) (done : List UInt8), gf = b.sz ∧ p = .pointer (some ⟨g, 0, none⟩) ∧ lo ≤ g ∧ w.heap[g]? = some (.cells #[x, y] 89 (0, 0)) ∧ VIn lo w b y ∧ J (pre ++ done) wr ∧ Kp bb w.heap.size w wr ∧ done ++ b.tl = T ∧ b.sz ≤ B

set_option maxRecDepth 100000 in
set_option maxHeartbeats 4000000 in
theorem writePairs_in (l bb lo N : Nat) (J Jx : List UInt8 → World → Prop) (w : World) (hY : Yl l bb w.heap.size N J Jx) (h6 : 6 ≤ w.heap.size) (hN2 : N ≤ 100000) (hbl : bb < lo) (a b : Vt)
    (IH : ∀ t' : Vt, t'.sz ≤ a.sz + b.sz → WrSaid l bb lo N J Jx w t')
    (n : Nat) (g : Nat) (x y : Value) (pre : List UInt8) (W : World) (hh : w.heap[g]? = some (.cells #[x, y] 89 (0, 0))) (hlo : lo ≤ g) (ha : VIn lo w a x) (hb : VIn lo w b y) (hK : Kp bb w.heap.size w W) (hJ : J pre W)
    (hN : pre.length + (Vt.pair a b).wr.length ≤ N) :
    CallsIn Fence.wide n Tryd.prog 33 #[.pointer (some ⟨g, 0, none⟩), .func (.yield l) #[] #[]] W fun e W' => Yd bb w.heap.size J Jx w pre (Vt.pair a b).wr e W' := by
  have hdd : ∀ k : Nat, (Fence.wide.depth.isSome = true → 1 ≤ k) := fun k h => by cases h
  have hT : (Vt.pair a b).wr = 40 :: (a.wr ++ b.tl) := rfl
  rw [hT] at hN ⊢
  simp only [List.length_cons, List.length_append] at hN
  have hy1 : YieldAt Fence.wide (n - 1) Tryd.prog l #[.int .u8 40] W fun e W1 =>
      (e = .returned (.bool true) ∧ W1.cell? ⟨g, 0, none⟩ = some x ∧ CallsIn Fence.wide (n - 1) Tryd.prog 18 #[x, .func (.yield l) #[] #[]] W1 fun e W2 => Yd bb w.heap.size J Jx w (pre ++ [40]) a.wr e W2) ∨ (e = .returned (.bool false) ∧ Jx (pre ++ [40]) W1) :=
    YieldAt.mono (hY.y (n - 1) pre 40 W hJ (by omega)) fun e W1 h => h.elim
      (fun ⟨he, hj, hk⟩ => .inl ⟨he, (pair_cells hh hlo hbl (hK.trans hk)).1, IH a (by omega) (n - 1) x (pre ++ [40]) W1 ha (hK.trans hk) hj (by simp; omega)⟩) .inr
  have HY := Lib.hid hY
  have HI := Lib.hid IH
  have HH := Lib.hid hh
  have HB := Lib.hid hb
  clear hY IH hh ha hb hK hJ
  obtain ⟨fn, tmps, assign, body, hy, hR⟩ := hy1
  refine callsIn_of_wp Tryd.func33 rfl trivial ?_ rfl
  simp only [Tryd.ntmps33, List.size_toArray, List.length_cons, List.length_nil, Nat.reduceAdd, Nat.reduceSub, Array.replicate_succ, Array.replicate_zero, List.push_toArray, List.append_toArray, List.nil_append, List.cons_append]
  gi_wp2_with (first
    | ((try refine ⟨hdd _, ?_⟩); refine hR.mono ?_; clear hR; rintro e W1 (⟨rfl, c1, hC1⟩ | ⟨rfl, hx1⟩))
    | (refine ⟨trivial, hdd _, ?_⟩; gi_at_call 18; refine hC1.mono ?_; clear hC1; rintro e W2 (⟨rfl, hj2, hk2⟩ | ⟨rfl, q, hq, hx2⟩)))
  rotate_left
  · go_ret
    obtain ⟨r, hr'⟩ := hq
    exact .inr ⟨rfl, 40 :: q, ⟨r ++ b.tl, by rw [← hr']; simp⟩, by simpa using hx2⟩
  · refine ⟨trivial, ?_⟩
    gi_wp2
    go_ret
    exact .inr ⟨rfl, [40], ⟨_, rfl⟩, hx1⟩
  have HJ2 := Lib.hid hj2
  have HK2 := Lib.hid hk2
  clear hj2 hk2 c1 hy
  gi_loopg [0] b.sz (PRel bb lo J w pre (40 :: (a.wr ++ b.tl)) b.sz)
  case atStart => exact ⟨g, x, y, b, 40 :: a.wr, rfl, rfl, hlo, HH.out, HB.out, by simpa using HJ2.out, HK2.out, by simp, Nat.le_refl _⟩
  case round =>
    obtain ⟨g1, x1, y1, b1, done, hgk, rfl, hlo1, hh1, hb1, hj1, hk1, hdone, hsz1⟩ := hrel
    have hlen : done.length + b1.tl.length = 1 + (a.wr.length + b.tl.length) := by have := congrArg List.length hdone; simp at this; omega
    obtain ⟨_, cy⟩ := pair_cells hh1 hlo1 hbl hk1
    have HDn := Lib.hid hdone
    have HJ1 := Lib.hid hj1
    have HK1 := Lib.hid hk1
    have HGk := Lib.hid hgk
    clear hdone hj1 hk1 hgk
    cases b1 with
    | pair a' b' =>
      obtain ⟨g2, x2, y2, rfl, hlo2, hh2, ha2, hb2⟩ := hb1
      have htl : (Vt.pair a' b').tl = 32 :: (a'.wr ++ b'.tl) := rfl
      have hsz : (Vt.pair a' b').sz = a'.sz + b'.sz + 1 := rfl
      rw [htl] at hlen
      rw [hsz] at hsz1
      simp only [List.length_cons, List.length_append] at hlen
      have hy1 : YieldAt Fence.wide (n - 1) Tryd.prog l #[.int .u8 32] wr fun e W1 =>
          (e = .returned (.bool true) ∧ W1.cell? ⟨g2, 0, none⟩ = some x2 ∧ CallsIn Fence.wide (n - 1) Tryd.prog 18 #[x2, .func (.yield l) #[] #[]] W1 fun e W2 => Yd bb w.heap.size J Jx w (pre ++ (done ++ [32])) a'.wr e W2) ∨ (e = .returned (.bool false) ∧ Jx (pre ++ (done ++ [32])) W1) :=
        YieldAt.mono (HY.out.y (n - 1) (pre ++ done) 32 wr HJ1.out (by simp; omega)) fun e W1 h => h.elim
          (fun ⟨he, hj, hk⟩ => .inl ⟨he, (pair_cells hh2 hlo2 hbl (HK1.out.trans hk)).1, HI.out a' (by omega) (n - 1) x2 (pre ++ (done ++ [32])) W1 ha2 (HK1.out.trans hk) (by rw [← List.append_assoc]; exact hj) (by simp; omega)⟩)
          (fun ⟨he, hx⟩ => .inr ⟨he, by rw [← List.append_assoc]; exact hx⟩)
      obtain ⟨fn, tmps, assign, body, hy, hR⟩ := hy1
      have HB2 := Lib.hid hb2
      have HH2 := Lib.hid hh2
      clear hh1 ha2 hb2 hh2
      gi_wp2_with (first
        | ((try refine ⟨hdd _, ?_⟩); refine hR.mono ?_; clear hR; rintro e W1 (⟨rfl, c1, hC1⟩ | ⟨rfl, hx1⟩))
        | (refine ⟨trivial, hdd _, ?_⟩; gi_at_call 18; refine hC1.mono ?_; clear hC1; rintro e W2 (⟨rfl, hj2, hk2⟩ | ⟨rfl, q, hq, hx2⟩)))
      · gi_roundg b'.sz
        case measure => rw [HGk.out, hsz]; omega
        case rel =>
          refine ⟨g2, x2, y2, b', done ++ (32 :: a'.wr), rfl, rfl, hlo2, HH2.out, HB2.out, by simpa using hj2, hk2, ?_, by omega⟩
          rw [← HDn.out, htl]; simp
      · go_ret
        obtain ⟨r, hr'⟩ := hq
        refine .inr ⟨rfl, done ++ (32 :: q), ⟨r ++ b'.tl, ?_⟩, by simpa using hx2⟩
        rw [← HDn.out, htl, ← hr']; simp
      · refine ⟨trivial, ?_⟩
        gi_wp2
        go_ret
        refine .inr ⟨rfl, done ++ [32], ⟨a'.wr ++ b'.tl, ?_⟩, hx1⟩
        rw [← HDn.out, htl]; simp
    | nil =>
      obtain rfl : y1 = .iface 72 (.agg #[]) := hb1
      have htl : Vt.tl .nil = [41] := rfl
      rw [htl] at hlen
      simp only [List.length_cons, List.length_nil] at hlen
      have hy3 : YieldAt Fence.wide (n - 1) Tryd.prog l #[.int .u8 41] (wr.alloc (.cells #[] 72)) fun e W3 => (e = .returned (.bool true) ∧ J (pre ++ done ++ [41]) W3 ∧ Kp bb w.heap.size w W3) ∨ (e = .returned (.bool false) ∧ Jx (pre ++ done ++ [41]) W3) :=
        YieldAt.mono (HY.out.y (n - 1) _ 41 _ (HY.out.grow _ _ _ HJ1.out (World.grownBy_alloc _ _ _)) (by simp; omega)) fun e W3 h => h.elim (fun ⟨he, h1, h2⟩ => .inl ⟨he, h1, (HK1.out.trans (kp_alloc _ _ _ _ (by have := HK1.out.size; omega))).trans h2⟩) .inr
      obtain ⟨fn, tmps, assign, body, hy, hR⟩ := hy3
      clear hh1
      gi_wp2_with ((try refine ⟨hdd _, ?_⟩); refine hR.mono ?_; clear hR; rintro e W3 (⟨rfl, hj3, hk3⟩ | ⟨rfl, hx3⟩))
      · go_ret
        rw [← HDn.out, htl]
        exact .inl ⟨rfl, by simpa using hj3, hk3⟩
      · go_ret
        rw [← HDn.out, htl]
        exact .inr ⟨rfl, _, List.prefix_refl _, by simpa using hx3⟩
    | num v1 =>
      have hna : ∀ a b : Vt, Vt.num v1 ≠ .pair a b := fun a b h => by cases h
      have htl : (Vt.num v1).tl = [32, 46, 32] ++ ((Vt.num v1).wr ++ [41]) := rfl
      rw [htl] at hlen
      simp only [List.length_cons, List.length_append, List.length_nil] at hlen
      obtain ⟨p1, hp1⟩ : ∃ p1, y1 = .iface 65 p1 := ⟨_, hb1.1⟩
      subst hp1
      have hw1 := writeText_in l bb w.heap.size N J Jx HY.out w ⟨#[32, 46, 32]⟩ (pre ++ done) (n - 1) wr HK1.out HJ1.out (by simp [ByteArray.size]; omega) (by omega)
      have hw2 : ∀ W1, J (pre ++ done ++ [32, 46, 32]) W1 → Kp bb w.heap.size w W1 → CallsIn Fence.wide (n - 1) Tryd.prog 18 #[.iface 65 p1, .func (.yield l) #[] #[]] W1 fun e W2 => Yd bb w.heap.size J Jx w (pre ++ done ++ [32, 46, 32]) (Vt.num v1).wr e W2 :=
        fun W1 hj hk => HI.out (.num v1) (by simp [Vt.sz]) (n - 1) _ _ W1 hb1 hk hj (by simp; omega)
      have hy3 : ∀ W2, J (pre ++ done ++ [32, 46, 32] ++ (Vt.num v1).wr) W2 → Kp bb w.heap.size w W2 → YieldAt Fence.wide (n - 1) Tryd.prog l #[.int .u8 41] W2 fun e W3 => (e = .returned (.bool true) ∧ J (pre ++ done ++ [32, 46, 32] ++ (Vt.num v1).wr ++ [41]) W3 ∧ Kp bb w.heap.size w W3) ∨ (e = .returned (.bool false) ∧ Jx (pre ++ done ++ [32, 46, 32] ++ (Vt.num v1).wr ++ [41]) W3) :=
        fun W2 hj hk => YieldAt.mono (HY.out.y (n - 1) _ 41 W2 hj (by simp; omega)) fun e W3 h => h.elim (fun ⟨he, h1, h2⟩ => .inl ⟨he, h1, hk.trans h2⟩) .inr
      have hfin : 40 :: (a.wr ++ b.tl) = done ++ ([32, 46, 32] ++ ((Vt.num v1).wr ++ [41])) := HDn.out.symm
      have HFin := Lib.hid hfin
      obtain ⟨u, hu⟩ : ∃ u, u = (Vt.num v1).wr := ⟨_, rfl⟩
      rw [← hu] at hw2 hy3 hlen HFin
      have HW2 := Lib.hid hw2
      have HY3 := Lib.hid hy3
      clear hh1 hb1 hfin hw2 hy3 hu htl hna
      gi_wp2_with (first
        | (refine ⟨trivial, hdd _, ?_⟩; gi_at_call 34; refine hw1.mono ?_; clear hw1; rintro e W1 (⟨rfl, hj1, hk1⟩ | ⟨rfl, q, hq, hx1⟩))
        | (refine ⟨trivial, hdd _, ?_⟩; gi_at_call 18; refine (HW2.out _ hj1 hk1).mono ?_; rintro e W2 (⟨rfl, hj2, hk2⟩ | ⟨rfl, q, hq, hx2⟩); obtain ⟨fn, tmps, assign, body, hy, hR⟩ := HY3.out _ hj2 hk2)
        | ((try refine ⟨hdd _, ?_⟩); refine hR.mono ?_; clear hR; rintro e W3 (⟨rfl, hj3, hk3⟩ | ⟨rfl, hx3⟩)))
      · go_ret
        rw [HFin.out]
        exact .inl ⟨rfl, by simpa using hj3, hk3⟩
      · go_ret
        rw [HFin.out]
        exact .inr ⟨rfl, _, List.prefix_refl _, by simpa using hx3⟩
      · refine ⟨fun _ h => (by cases h), ?_⟩
        gi_wp2
        go_ret
        rw [HFin.out]
        obtain ⟨r, hr'⟩ := hq
        exact .inr ⟨rfl, done ++ ([32, 46, 32] ++ q), ⟨r ++ [41], by rw [← hr']; simp⟩, by simpa using hx2⟩
      · refine ⟨trivial, ?_⟩
        gi_wp2
        refine ⟨fun _ h => (by cases h), ?_⟩
        gi_wp2
        go_ret
        rw [HFin.out]
        obtain ⟨r, hr'⟩ := hq
        exact .inr ⟨rfl, done ++ q, ⟨r ++ (u ++ [41]), by rw [show ([32, 46, 32] : List UInt8) = q ++ r from hr'.symm]; simp⟩, by simpa using hx1⟩
    | bool v1 =>
      have hna : ∀ a b : Vt, Vt.bool v1 ≠ .pair a b := fun a b h => by cases h
      have htl : (Vt.bool v1).tl = [32, 46, 32] ++ ((Vt.bool v1).wr ++ [41]) := rfl
      rw [htl] at hlen
      simp only [List.length_cons, List.length_append, List.length_nil] at hlen
      obtain ⟨p1, hp1⟩ : ∃ p1, y1 = .iface 66 p1 := ⟨_, hb1⟩
      subst hp1
      have hw1 := writeText_in l bb w.heap.size N J Jx HY.out w ⟨#[32, 46, 32]⟩ (pre ++ done) (n - 1) wr HK1.out HJ1.out (by simp [ByteArray.size]; omega) (by omega)
      have hw2 : ∀ W1, J (pre ++ done ++ [32, 46, 32]) W1 → Kp bb w.heap.size w W1 → CallsIn Fence.wide (n - 1) Tryd.prog 18 #[.iface 66 p1, .func (.yield l) #[] #[]] W1 fun e W2 => Yd bb w.heap.size J Jx w (pre ++ done ++ [32, 46, 32]) (Vt.bool v1).wr e W2 :=
        fun W1 hj hk => HI.out (.bool v1) (by simp [Vt.sz]) (n - 1) _ _ W1 hb1 hk hj (by simp; omega)
      have hy3 : ∀ W2, J (pre ++ done ++ [32, 46, 32] ++ (Vt.bool v1).wr) W2 → Kp bb w.heap.size w W2 → YieldAt Fence.wide (n - 1) Tryd.prog l #[.int .u8 41] W2 fun e W3 => (e = .returned (.bool true) ∧ J (pre ++ done ++ [32, 46, 32] ++ (Vt.bool v1).wr ++ [41]) W3 ∧ Kp bb w.heap.size w W3) ∨ (e = .returned (.bool false) ∧ Jx (pre ++ done ++ [32, 46, 32] ++ (Vt.bool v1).wr ++ [41]) W3) :=
        fun W2 hj hk => YieldAt.mono (HY.out.y (n - 1) _ 41 W2 hj (by simp; omega)) fun e W3 h => h.elim (fun ⟨he, h1, h2⟩ => .inl ⟨he, h1, hk.trans h2⟩) .inr
      have hfin : 40 :: (a.wr ++ b.tl) = done ++ ([32, 46, 32] ++ ((Vt.bool v1).wr ++ [41])) := HDn.out.symm
      have HFin := Lib.hid hfin
      obtain ⟨u, hu⟩ : ∃ u, u = (Vt.bool v1).wr := ⟨_, rfl⟩
      rw [← hu] at hw2 hy3 hlen HFin
      have HW2 := Lib.hid hw2
      have HY3 := Lib.hid hy3
      clear hh1 hb1 hfin hw2 hy3 hu htl hna
      gi_wp2_with (first
        | (refine ⟨trivial, hdd _, ?_⟩; gi_at_call 34; refine hw1.mono ?_; clear hw1; rintro e W1 (⟨rfl, hj1, hk1⟩ | ⟨rfl, q, hq, hx1⟩))
        | (refine ⟨trivial, hdd _, ?_⟩; gi_at_call 18; refine (HW2.out _ hj1 hk1).mono ?_; rintro e W2 (⟨rfl, hj2, hk2⟩ | ⟨rfl, q, hq, hx2⟩); obtain ⟨fn, tmps, assign, body, hy, hR⟩ := HY3.out _ hj2 hk2)
        | ((try refine ⟨hdd _, ?_⟩); refine hR.mono ?_; clear hR; rintro e W3 (⟨rfl, hj3, hk3⟩ | ⟨rfl, hx3⟩)))
      · go_ret
        rw [HFin.out]
        exact .inl ⟨rfl, by simpa using hj3, hk3⟩
      · go_ret
        rw [HFin.out]
        exact .inr ⟨rfl, _, List.prefix_refl _, by simpa using hx3⟩
      · refine ⟨fun _ h => (by cases h), ?_⟩
        gi_wp2
        go_ret
        rw [HFin.out]
        obtain ⟨r, hr'⟩ := hq
        exact .inr ⟨rfl, done ++ ([32, 46, 32] ++ q), ⟨r ++ [41], by rw [← hr']; simp⟩, by simpa using hx2⟩
      · refine ⟨trivial, ?_⟩
        gi_wp2
        refine ⟨fun _ h => (by cases h), ?_⟩
        gi_wp2
        go_ret
        rw [HFin.out]
        obtain ⟨r, hr'⟩ := hq
        exact .inr ⟨rfl, done ++ q, ⟨r ++ (u ++ [41]), by rw [show ([32, 46, 32] : List UInt8) = q ++ r from hr'.symm]; simp⟩, by simpa using hx1⟩
    | str v1 =>
      have hna : ∀ a b : Vt, Vt.str v1 ≠ .pair a b := fun a b h => by cases h
      have htl : (Vt.str v1).tl = [32, 46, 32] ++ ((Vt.str v1).wr ++ [41]) := rfl
      rw [htl] at hlen
      simp only [List.length_cons, List.length_append, List.length_nil] at hlen
      obtain ⟨p1, hp1⟩ : ∃ p1, y1 = .iface 67 p1 := ⟨_, hb1⟩
      subst hp1
      have hw1 := writeText_in l bb w.heap.size N J Jx HY.out w ⟨#[32, 46, 32]⟩ (pre ++ done) (n - 1) wr HK1.out HJ1.out (by simp [ByteArray.size]; omega) (by omega)
      have hw2 : ∀ W1, J (pre ++ done ++ [32, 46, 32]) W1 → Kp bb w.heap.size w W1 → CallsIn Fence.wide (n - 1) Tryd.prog 18 #[.iface 67 p1, .func (.yield l) #[] #[]] W1 fun e W2 => Yd bb w.heap.size J Jx w (pre ++ done ++ [32, 46, 32]) (Vt.str v1).wr e W2 :=
        fun W1 hj hk => HI.out (.str v1) (by simp [Vt.sz]) (n - 1) _ _ W1 hb1 hk hj (by simp; omega)
      have hy3 : ∀ W2, J (pre ++ done ++ [32, 46, 32] ++ (Vt.str v1).wr) W2 → Kp bb w.heap.size w W2 → YieldAt Fence.wide (n - 1) Tryd.prog l #[.int .u8 41] W2 fun e W3 => (e = .returned (.bool true) ∧ J (pre ++ done ++ [32, 46, 32] ++ (Vt.str v1).wr ++ [41]) W3 ∧ Kp bb w.heap.size w W3) ∨ (e = .returned (.bool false) ∧ Jx (pre ++ done ++ [32, 46, 32] ++ (Vt.str v1).wr ++ [41]) W3) :=
        fun W2 hj hk => YieldAt.mono (HY.out.y (n - 1) _ 41 W2 hj (by simp; omega)) fun e W3 h => h.elim (fun ⟨he, h1, h2⟩ => .inl ⟨he, h1, hk.trans h2⟩) .inr
      have hfin : 40 :: (a.wr ++ b.tl) = done ++ ([32, 46, 32] ++ ((Vt.str v1).wr ++ [41])) := HDn.out.symm
      have HFin := Lib.hid hfin
      obtain ⟨u, hu⟩ : ∃ u, u = (Vt.str v1).wr := ⟨_, rfl⟩
      rw [← hu] at hw2 hy3 hlen HFin
      have HW2 := Lib.hid hw2
      have HY3 := Lib.hid hy3
      clear hh1 hb1 hfin hw2 hy3 hu htl hna
      gi_wp2_with (first
        | (refine ⟨trivial, hdd _, ?_⟩; gi_at_call 34; refine hw1.mono ?_; clear hw1; rintro e W1 (⟨rfl, hj1, hk1⟩ | ⟨rfl, q, hq, hx1⟩))
        | (refine ⟨trivial, hdd _, ?_⟩; gi_at_call 18; refine (HW2.out _ hj1 hk1).mono ?_; rintro e W2 (⟨rfl, hj2, hk2⟩ | ⟨rfl, q, hq, hx2⟩); obtain ⟨fn, tmps, assign, body, hy, hR⟩ := HY3.out _ hj2 hk2)
        | ((try refine ⟨hdd _, ?_⟩); refine hR.mono ?_; clear hR; rintro e W3 (⟨rfl, hj3, hk3⟩ | ⟨rfl, hx3⟩)))
      · go_ret
        rw [HFin.out]
        exact .inl ⟨rfl, by simpa using hj3, hk3⟩
      · go_ret
        rw [HFin.out]
        exact .inr ⟨rfl, _, List.prefix_refl _, by simpa using hx3⟩
      · refine ⟨fun _ h => (by cases h), ?_⟩
        gi_wp2
        go_ret
        rw [HFin.out]
        obtain ⟨r, hr'⟩ := hq
        exact .inr ⟨rfl, done ++ ([32, 46, 32] ++ q), ⟨r ++ [41], by rw [← hr']; simp⟩, by simpa using hx2⟩
      · refine ⟨trivial, ?_⟩
        gi_wp2
        refine ⟨fun _ h => (by cases h), ?_⟩
        gi_wp2
        go_ret
        rw [HFin.out]
        obtain ⟨r, hr'⟩ := hq
        exact .inr ⟨rfl, done ++ q, ⟨r ++ (u ++ [41]), by rw [show ([32, 46, 32] : List UInt8) = q ++ r from hr'.symm]; simp⟩, by simpa using hx1⟩
    | sym v1 =>
      have hna : ∀ a b : Vt, Vt.sym v1 ≠ .pair a b := fun a b h => by cases h
      have htl : (Vt.sym v1).tl = [32, 46, 32] ++ ((Vt.sym v1).wr ++ [41]) := rfl
      rw [htl] at hlen
      simp only [List.length_cons, List.length_append, List.length_nil] at hlen
      obtain ⟨p1, hp1⟩ : ∃ p1, y1 = .iface 68 p1 := ⟨_, hb1⟩
      subst hp1
      have hw1 := writeText_in l bb w.heap.size N J Jx HY.out w ⟨#[32, 46, 32]⟩ (pre ++ done) (n - 1) wr HK1.out HJ1.out (by simp [ByteArray.size]; omega) (by omega)
      have hw2 : ∀ W1, J (pre ++ done ++ [32, 46, 32]) W1 → Kp bb w.heap.size w W1 → CallsIn Fence.wide (n - 1) Tryd.prog 18 #[.iface 68 p1, .func (.yield l) #[] #[]] W1 fun e W2 => Yd bb w.heap.size J Jx w (pre ++ done ++ [32, 46, 32]) (Vt.sym v1).wr e W2 :=
        fun W1 hj hk => HI.out (.sym v1) (by simp [Vt.sz]) (n - 1) _ _ W1 hb1 hk hj (by simp; omega)
      have hy3 : ∀ W2, J (pre ++ done ++ [32, 46, 32] ++ (Vt.sym v1).wr) W2 → Kp bb w.heap.size w W2 → YieldAt Fence.wide (n - 1) Tryd.prog l #[.int .u8 41] W2 fun e W3 => (e = .returned (.bool true) ∧ J (pre ++ done ++ [32, 46, 32] ++ (Vt.sym v1).wr ++ [41]) W3 ∧ Kp bb w.heap.size w W3) ∨ (e = .returned (.bool false) ∧ Jx (pre ++ done ++ [32, 46, 32] ++ (Vt.sym v1).wr ++ [41]) W3) :=
        fun W2 hj hk => YieldAt.mono (HY.out.y (n - 1) _ 41 W2 hj (by simp; omega)) fun e W3 h => h.elim (fun ⟨he, h1, h2⟩ => .inl ⟨he, h1, hk.trans h2⟩) .inr
      have hfin : 40 :: (a.wr ++ b.tl) = done ++ ([32, 46, 32] ++ ((Vt.sym v1).wr ++ [41])) := HDn.out.symm
      have HFin := Lib.hid hfin
      obtain ⟨u, hu⟩ : ∃ u, u = (Vt.sym v1).wr := ⟨_, rfl⟩
      rw [← hu] at hw2 hy3 hlen HFin
      have HW2 := Lib.hid hw2
      have HY3 := Lib.hid hy3
      clear hh1 hb1 hfin hw2 hy3 hu htl hna
      gi_wp2_with (first
        | (refine ⟨trivial, hdd _, ?_⟩; gi_at_call 34; refine hw1.mono ?_; clear hw1; rintro e W1 (⟨rfl, hj1, hk1⟩ | ⟨rfl, q, hq, hx1⟩))
        | (refine ⟨trivial, hdd _, ?_⟩; gi_at_call 18; refine (HW2.out _ hj1 hk1).mono ?_; rintro e W2 (⟨rfl, hj2, hk2⟩ | ⟨rfl, q, hq, hx2⟩); obtain ⟨fn, tmps, assign, body, hy, hR⟩ := HY3.out _ hj2 hk2)
        | ((try refine ⟨hdd _, ?_⟩); refine hR.mono ?_; clear hR; rintro e W3 (⟨rfl, hj3, hk3⟩ | ⟨rfl, hx3⟩)))
      · go_ret
        rw [HFin.out]
        exact .inl ⟨rfl, by simpa using hj3, hk3⟩
      · go_ret
        rw [HFin.out]
        exact .inr ⟨rfl, _, List.prefix_refl _, by simpa using hx3⟩
      · refine ⟨fun _ h => (by cases h), ?_⟩
        gi_wp2
        go_ret
        rw [HFin.out]
        obtain ⟨r, hr'⟩ := hq
        exact .inr ⟨rfl, done ++ ([32, 46, 32] ++ q), ⟨r ++ [41], by rw [← hr']; simp⟩, by simpa using hx2⟩
      · refine ⟨trivial, ?_⟩
        gi_wp2
        refine ⟨fun _ h => (by cases h), ?_⟩
        gi_wp2
        go_ret
        rw [HFin.out]
        obtain ⟨r, hr'⟩ := hq
        exact .inr ⟨rfl, done ++ q, ⟨r ++ (u ++ [41]), by rw [show ([32, 46, 32] : List UInt8) = q ++ r from hr'.symm]; simp⟩, by simpa using hx1⟩

set_option maxRecDepth 100000 in
set_option maxHeartbeats 2000000 in
theorem write_all (l bb lo N : Nat) (J Jx : List UInt8 → World → Prop) (w : World) (hY : Yl l bb w.heap.size N J Jx) (hG : GT w) (h6 : 6 ≤ w.heap.size) (hN2 : N ≤ 100000) (hbl : bb < lo) :
    ∀ (k : Nat) (t : Vt), t.sz ≤ k → WrSaid l bb lo N J Jx w t := by
  intro k
  induction k with
  | zero =>
    intro t ht
    refine write_atom l bb lo N J Jx w hY hG h6 hN2 hbl t ?_
    intro a b e; subst e; simp [Vt.sz] at ht
  | succ k ih =>
    intro t ht
    cases t with
    | pair a b =>
      have hs : a.sz + b.sz ≤ k := by have : (Vt.pair a b).sz = a.sz + b.sz + 1 := rfl; omega
      intro n v pre W hv hK hJ hN
      have hdd : ∀ k : Nat, (Fence.wide.depth.isSome = true → 1 ≤ k) := fun k h => by cases h
      obtain ⟨g, x, y, rfl, hlo, hh, ha, hb⟩ := hv
      have hP := writePairs_in l bb lo N J Jx w hY h6 hN2 hbl a b (fun t' h => ih t' (by omega)) (n - 1) g x y pre W hh hlo ha hb hK hJ hN
      clear ih hY
      refine callsIn_of_wp Tryd.func18 rfl trivial ?_ rfl
      simp only [Tryd.ntmps18, List.size_toArray, List.length_cons, List.length_nil, Nat.reduceAdd, Nat.reduceSub, Array.replicate_succ, Array.replicate_zero, List.push_toArray, List.append_toArray, List.nil_append, List.cons_append]
      gi_wp2_with (refine ⟨trivial, hdd _, ?_⟩; gi_at_call 33; refine hP.mono ?_; clear hP; rintro e W2 (⟨rfl, hj, hk⟩ | ⟨rfl, hq⟩))
      · go_ret
        exact .inl ⟨rfl, hj, hk⟩
      · go_ret
        exact .inr ⟨rfl, hq⟩
    | _ => exact write_atom l bb lo N J Jx w hY hG h6 hN2 hbl _ (fun a b e => by cases e)

end Go.Proofs.YtbgmenglfgodbaaDoor
