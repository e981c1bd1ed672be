/-
  OUR OWN. The walk of reader.quoted.
-/
import Derived.Test.YtbgmenglfgodbaaDoorNest
import Derived.Deep.RegionWith
namespace Go.Proofs.YtbgmenglfgodbaaDoor
open Go.RowKit

set_option maxHeartbeats 400000 in
theorem ofSymbol_ex (tx : ByteArray) (w : World) :
    Calls Tryd.prog 46 #[.string tx] w fun e w' => e = .returned (.agg #[.int .i64 3, .int .i64 0, .bool false, .string tx, .int .i64 0, .slice none 0 0]) ∧ w.alloc (.cells #[.int .i64 3, .int .i64 0, .bool false, .string tx, .int .i64 0, .slice none 0 0] 39) = w' := by
  go_enter Tryd.func46, Tryd.ntmps46
  go_wp2
  exact bodyPost_ret (v := El.v ⟨3, 0, false, tx, 0, none, 0, 0⟩) (by simp [results, Tryd.results46, go_sem]) rfl ⟨rfl, rfl⟩
set_option maxHeartbeats 400000 in
theorem ofList_ex (a : Option Addr) (len cap : Nat) (w : World) :
    Calls Tryd.prog 45 #[.slice a len cap] w fun e w' => e = .returned (.agg #[.int .i64 4, .int .i64 0, .bool false, .string ⟨#[]⟩, .int .i64 0, .slice a len cap]) ∧ w.alloc (.cells #[.int .i64 4, .int .i64 0, .bool false, .string ⟨#[]⟩, .int .i64 0, .slice a len cap] 39) = w' := by
  go_enter Tryd.func45, Tryd.ntmps45
  go_wp2
  exact bodyPost_ret (v := El.v ⟨4, 0, false, ⟨#[]⟩, 0, a, len, cap⟩) (by simp [results, Tryd.results45, go_sem]) rfl ⟨rfl, rfl⟩

def quoteR (r : Py.R) : Py.R := match r with
  | .inl e => .inl e
  | .inr (xs, rr) => .inr ([.list (.sym Px.quoteT 0 :: xs)], rr)

theorem alloc4_row (W : World) (A B R C : Obj) (n : Nat) (hn : n = W.heap.size) : ((((W.alloc A).alloc B).alloc R).alloc C).heap[n + 1 + 1]? = some R := by
  subst hn
  rw [Below.heap_alloc _ _ _ (by simp)]
  have := heap_alloc_new ((W.alloc A).alloc B) R
  rwa [show ((W.alloc A).alloc B).heap.size = W.heap.size + 1 + 1 from by simp] at this

theorem ResN.quote {b : Nat} {s : ByteArray} {d G : Nat} {w W' : World} {x : El} {t : Dt} {rr : List UInt8} (hO : Only b w W') (hG : w.heap.size ≤ G)
    (hrow : W'.heap[G]? = some (.cells #[.int .i64 3, .int .i64 0, .bool false, .string ⟨#[113, 117, 111, 116, 101]⟩, .int .i64 0, .slice none 0 0, .int .i64 x.k, .int .i64 x.n, .bool x.tr, .string x.tx, .int .i64 x.m, .slice x.a x.len x.cap] 39 (0, 0)))
    (hrep : Rep w.heap.size NoB W' (32 - d) x t) (hd : d ≤ 30) (hR : Rd b s (s.size - rr.length) d W') :
    ResN b s d (.inr ([.list (.sym Px.quoteT 0 :: [t])], rr)) w (.returned (.tuple #[El.v ⟨4, 0, false, ⟨#[]⟩, 0, some ⟨G, 0, none⟩, 2, 2⟩, .pointer none])) W' := by
  refine ⟨hO, ⟨4, 0, false, ⟨#[]⟩, 0, some ⟨G, 0, none⟩, 2, 2⟩, _, rfl, rfl, ?_, hR⟩
  rw [show 33 - d = (32 - d) + 1 from by omega]
  refine .inr (.inr (.inr (.inr ⟨rfl, [⟨3, 0, false, ⟨#[113, 117, 111, 116, 101]⟩, 0, none, 0, 0⟩, x], [.sym Px.quoteT 0, t], rfl, rfl, ⟨rfl, ⟨rfl, .inr ⟨G, 2, _, rfl, hG, hrow, Nat.le_refl _, by decide, rfl, rfl⟩⟩, fun g h => by cases h⟩, ?_⟩)))
  intro i y u h1 h2
  rw [show 32 - d = (31 - d) + 1 from by omega]
  match i, h1, h2 with
  | 0, h1, h2 => simp at h1 h2; subst h1; subst h2; exact .inr (.inr (.inr (.inl ⟨rfl, rfl⟩)))
  | 1, h1, h2 => simp at h1 h2; subst h1; subst h2; rw [show 32 - d = (31 - d) + 1 from by omega] at hrep; exact hrep
  | i + 2, h1, h2 => simp at h1

theorem Only.drew {b : Nat} {w w' : World} (h : Only b w w') : Only b w w'.drew := ⟨h.os, h.tape, h.output, h.size, h.block⟩
theorem Rd.drew {b : Nat} {s : ByteArray} {p d : Nat} {w : World} (h : Rd b s p d w) : Rd b s p d w.drew := h
theorem alloc4_grown (W : World) (A B R C : Obj) : W.grownBy ((((W.alloc A).alloc B).alloc R).alloc C).drew none :=
  ⟨rfl, rfl, rfl, by simp; omega, fun k hk _ => by
    show ((((W.alloc A).alloc B).alloc R).alloc C).heap[k]? = _
    rw [Below.heap_alloc _ _ _ (by simp; omega), Below.heap_alloc _ _ _ (by simp; omega), Below.heap_alloc _ _ _ (by simp; omega), Below.heap_alloc _ _ _ hk]⟩

theorem quote_fin {b : Nat} {s : ByteArray} {d g lo : Nat} {w w1 : World} {x : El} {t : Dt} {rr : List UInt8} (hO : Only b w w1) (hg : w.heap.size ≤ g) (hlo : g < lo) (hlo2 : w.heap.size ≤ lo) (hb : b < w.heap.size) (hd : d ≤ 30)
    (hrep : Rep lo NoB w1 (32 - d) x t) (hR : Rd b s (s.size - rr.length) d w1) (v0 v1 v2 v3 v4 v5 : Value) (A B C : Obj) :
    ResN b s d (.inr ([.list (.sym Px.quoteT 0 :: [t])], rr)) w (.returned (.tuple #[El.v ⟨4, 0, false, ⟨#[]⟩, 0, some ⟨w1.heap.size + 1 + 1, 0, none⟩, 2, 2⟩, .pointer none]))
      (((((put6 w1 g v0 v1 v2 v3 v4 v5).alloc A).alloc B).alloc (.cells #[.int .i64 3, .int .i64 0, .bool false, .string ⟨#[113, 117, 111, 116, 101]⟩, .int .i64 0, .slice none 0 0, .int .i64 x.k, .int .i64 x.n, .bool x.tr, .string x.tx, .int .i64 x.m, .slice x.a x.len x.cap] 39 (0, 0))).alloc C).drew := by
  have hp := put6_grown w1 g v0 v1 v2 v3 v4 v5
  have hz : w1.heap.size = (put6 w1 g v0 v1 v2 v3 v4 v5).heap.size := by simp
  have h1 : Only b w (put6 w1 g v0 v1 v2 v3 v4 v5) := hO.new hp hg
  have h2 : Rep lo NoB (put6 w1 g v0 v1 v2 v3 v4 v5) (32 - d) x t := Rep.kept hp (fun g' h => by cases h; exact .inl hlo) hrep
  have h3 : Rd b s (s.size - rr.length) d (put6 w1 g v0 v1 v2 v3 v4 v5) := hR.kept hp (by intro e; cases e; omega)
  have hsz := hO.size
  generalize put6 w1 g v0 v1 v2 v3 v4 v5 = W at *
  have hg4 := alloc4_grown W A B (.cells #[.int .i64 3, .int .i64 0, .bool false, .string ⟨#[113, 117, 111, 116, 101]⟩, .int .i64 0, .slice none 0 0, .int .i64 x.k, .int .i64 x.n, .bool x.tr, .string x.tx, .int .i64 x.m, .slice x.a x.len x.cap] 39 (0, 0)) C
  exact ResN.quote (((((h1.alloc _).alloc _).alloc _).alloc _).drew) (by omega) (alloc4_row W A B _ C _ hz) (Rep.turn hlo2 (fun g h => by cases h) (Rep.kept hg4 (fun g h => by cases h) h2)) hd (h3.kept hg4 (by simp))

set_option maxHeartbeats 1000000 in
theorem quoted_any (b : Nat) (s : ByteArray) (p d : Nat) (r : Py.R) (w : World) (h : Rd b s p d w) (hd30 : d ≤ 30) (hG : GV w) (hb6 : 6 ≤ b)
    (hD : ∀ w, Rd b s p d w → GV w → Calls Tryd.prog 16 #[.pointer (some ⟨b, 0, none⟩)] w fun e w' => Res b s d r w e w') :
    Calls Tryd.prog 28 #[.pointer (some ⟨b, 0, none⟩)] w fun e w' => ResN b s d (quoteR r) w e w' := by
  have hb := h.lt
  have HR := Lib.hid h
  have HG := Lib.hid hG
  have HD := Lib.hid hD
  clear h hG hD
  rcases r with ⟨c, k⟩ | ⟨ts, rr⟩
  · show Calls Tryd.prog 28 #[.pointer (some ⟨b, 0, none⟩)] w fun e w' => ResN b s d (.inl (c, k)) w e w'
    go_enter Tryd.func28, Tryd.ntmps28
    go_wp2_with (go_at_call 16; refine (HD.out _ (by exact HR.out.alloc _) (by exact (HG.out.only ((Only.refl b w).alloc _) hb6 (by omega)))).mono ?_; rintro e w1 ⟨hO, N, rfl, hN0, hN, p', hR1⟩; refine Hid.out ?_)
    have hz1 : w.heap.size + 1 ≤ w1.heap.size := by have := hO.size; simp at this; omega
    have hzl : w.heap.size < w1.heap.size := by omega
    have HO1 := Lib.hid (((Only.refl b w).alloc _).trans hO)
    have HR1 := Lib.hid hR1
    have hN9 : w.heap.size + 1 ≤ N := by simpa using hN0
    have HN := Lib.hid hN
    obtain ⟨⟨y0, k0⟩, ⟨y1, k1⟩, ⟨y2, k2⟩, ⟨y3, k3⟩, ⟨y4, k4⟩, ⟨y5, k5⟩, kf⟩ := (Box.new w _ _ _ _ _ _).kept hO (by intro e; cases e; omega) (by simp)
    clear hO hN hN0 hR1
    refine Lib.hid ?_
    go_wp2
    refine bodyPost_ret (v := .tuple #[El.nil.v, .pointer (some ⟨N, 0, none⟩)]) (by simp [results, Tryd.results28, go_sem, *]) rfl ?_
    exact (Res.err HO1.out (Nat.le_refl _) (by omega) (by omega) HN.out rfl rfl HR1.out hb _ _ _ _ _ _).alloc _
  · show Calls Tryd.prog 28 #[.pointer (some ⟨b, 0, none⟩)] w fun e w' => ResN b s d (.inr ([.list (.sym Px.quoteT 0 :: ts)], rr)) w e w'
    go_enter Tryd.func28, Tryd.ntmps28
    go_wp2_with (go_at_call 16; refine (HD.out _ (by exact HR.out.alloc _) (by exact (HG.out.only ((Only.refl b w).alloc _) hb6 (by omega)))).mono ?_; rintro e w1 ⟨hO, x, t, rfl, rfl, hrep, hrd⟩; refine Hid.out ?_)
    have hz1 : w.heap.size + 1 ≤ w1.heap.size := by have := hO.size; simp at this; omega
    have hzl : w.heap.size < w1.heap.size := by omega
    have HO1 := Lib.hid (((Only.refl b w).alloc _).trans hO)
    have HR1 := Lib.hid hrd
    have HRep := Lib.hid hrep
    obtain ⟨⟨y0, k0⟩, ⟨y1, k1⟩, ⟨y2, k2⟩, ⟨y3, k3⟩, ⟨y4, k4⟩, ⟨y5, k5⟩, kf⟩ := (Box.new w _ _ _ _ _ _).kept hO (by intro e; cases e; omega) (by simp)
    clear hO hrep hrd
    obtain ⟨xk, xn, xtr, xtx, xm, xa, xlen, xcap⟩ := x
    refine Lib.hid ?_
    go_wp2
    have hzl2 : w.heap.size < w1.heap.size + 1 := by omega
    have hzl3 : w.heap.size < w1.heap.size + 1 + 1 := by omega
    have hzl4 : w.heap.size < w1.heap.size + 2 := by omega
    have hzl5 : w.heap.size < w1.heap.size + 1 + 1 + 1 := by omega
    have hzl6 : w.heap.size < w1.heap.size + 3 := by omega
    have kc : ∀ o1 o2 o3 o4 : Obj, ∀ i : Nat, ((((w1.alloc o1).alloc o2).alloc o3).alloc o4).cell? ⟨w.heap.size, i, none⟩ = w1.cell? ⟨w.heap.size, i, none⟩ := by
      intro o1 o2 o3 o4 i
      exact (((((Below.refl (w.heap.size + 1) w1).alloc (by omega) _).alloc (by simp; omega) _).alloc (by simp; omega) _).alloc (by simp; omega) _).cell (p := ⟨w.heap.size, i, none⟩) (by simp)
    have kz : ∀ o1 o2 o3 o4 : Obj, ∀ i : Nat, ((((w1.alloc o1).alloc o2).alloc o3).alloc o4).frozen? ⟨w.heap.size, i, none⟩ = false := by
      intro o1 o2 o3 o4 i
      rw [(((((Below.refl (w.heap.size + 1) w1).alloc (by omega) _).alloc (by simp; omega) _).alloc (by simp; omega) _).alloc (by simp; omega) _).frozen (p := ⟨w.heap.size, i, none⟩) (by simp)]
      exact kf i
    go_region_with (first | (go_at_call 46; refine (ofSymbol_ex _ _).mono ?_; rintro e w2 ⟨rfl, rfl⟩) | (go_at_call 45; refine (ofList_ex _ _ _ _).mono ?_; rintro e w2 ⟨rfl, rfl⟩))
    all_goals go_wp2
    all_goals
      refine bodyPost_ret (v := .tuple #[El.v ⟨4, 0, false, ⟨#[]⟩, 0, some ⟨w1.heap.size + 1 + 1, 0, none⟩, 2, 2⟩, .pointer none]) (by simp [results, Tryd.results28, go_sem, *]) rfl ?_
      exact quote_fin (x := ⟨xk, xn, xtr, xtx, xm, xa, xlen, xcap⟩) HO1.out (Nat.le_refl _) (by simp) (by simp) hb hd30 HRep.out HR1.out _ _ _ _ _ _ _ _ _

end Go.Proofs.YtbgmenglfgodbaaDoor
