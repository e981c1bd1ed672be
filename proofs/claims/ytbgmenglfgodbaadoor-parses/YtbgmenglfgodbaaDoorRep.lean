/-
  OUR OWN. A datum in memory, told by its written text; what a reading function answers.
-/
import Derived.Test.YtbgmenglfgodbaaDoorSmall
namespace Go.Proofs.YtbgmenglfgodbaaDoor
open Go.RowKit

def El.cells (e : El) : List Value := [.int .i64 e.k, .int .i64 e.n, .bool e.tr, .string e.tx, .int .i64 e.m, .slice e.a e.len e.cap]
abbrev El.sl (e : El) : Value := .slice e.a e.len e.cap

/-- No block is barred. -/
abbrev NoB : Nat → Prop := fun _ => False

/-- The members of a list lie in a row from block lo on, and in none that own bars. -/
structure Row (lo : Nat) (own : Nat → Prop) (w : World) (e : El) (es : List El) : Prop where
  len : es.length = e.len
  owns : w.ownsRow lo 39 6 e.sl e.len (es.flatMap El.cells)
  far : ∀ g, own g → e.sl.ownBlock ≠ some g

/-- In w the datum e is written t; it is at most m - 1 lists deep. -/
def Rep (lo : Nat) (own : Nat → Prop) (w : World) : Nat → El → Dt → Prop
  | 0, _, _ => False
  | m + 1, e, t =>
    (e.k = 0 ∧ t = .num e.n ∧ -9223372036854775808 ≤ e.n ∧ e.n ≤ 9223372036854775807) ∨ (e.k = 1 ∧ t = .bool e.tr) ∨ (e.k = 2 ∧ t = .str e.tx.data.toList) ∨ (e.k = 3 ∧ t = .sym e.tx.data.toList e.m) ∨
    (e.k = 4 ∧ ∃ (es : List El) (ts : List Dt), t = .list ts ∧ es.length = ts.length ∧ Row lo own w e es ∧ ∀ (i : Nat) (x : El) (u : Dt), es[i]? = some x → ts[i]? = some u → Rep lo own w m x u)

theorem ownsRow_lo {w : World} {lo lo' : Nat} {e : TypeId} {z : Nat} {v : Value} {n : Nat} {xs : List Value} (h : w.ownsRow lo e z v n xs) (hl : lo' ≤ lo) : w.ownsRow lo' e z v n xs := by
  refine ⟨h.1, ?_⟩
  rcases h.2 with h | ⟨g, cap, cur, h1, h2, r⟩
  · exact .inl h
  · exact .inr ⟨g, cap, cur, h1, Nat.le_trans hl h2, r⟩

theorem Row.kept {lo : Nat} {own : Nat → Prop} {row : Option Nat} {w w' : World} {e : El} {es : List El} (h : Row lo own w e es) (hg : w.grownBy w' row) (hr : ∀ g, row = some g → g < lo ∨ own g) : Row lo own w' e es := by
  refine ⟨h.len, h.owns.kept hg ?_, h.far⟩
  cases hv : e.sl.ownBlock with
  | none => exact .inl rfl
  | some k =>
    right
    intro hk
    have h1 := h.owns.lt k hv
    rcases hr k hk.symm with h2 | h2
    · omega
    · exact h.far k h2 hv

theorem Rep.kept {lo : Nat} {own : Nat → Prop} {row : Option Nat} {w w' : World} (hg : w.grownBy w' row) (hr : ∀ g, row = some g → g < lo ∨ own g) :
    ∀ {m : Nat} {e : El} {t : Dt}, Rep lo own w m e t → Rep lo own w' m e t
  | 0, _, _, h => False.elim h
  | m + 1, e, t, h => by
    rcases h with h | h | h | h | ⟨hk, es, ts, ht, hl, hrow, hall⟩
    · exact .inl h
    · exact .inr (.inl h)
    · exact .inr (.inr (.inl h))
    · exact .inr (.inr (.inr (.inl h)))
    · exact .inr (.inr (.inr (.inr ⟨hk, es, ts, ht, hl, hrow.kept hg hr, fun i x u h1 h2 => Rep.kept hg hr (hall i x u h1 h2)⟩)))

theorem Rep.turn {lo lo' : Nat} {own own' : Nat → Prop} {w : World} (hlo : lo' ≤ lo) (ho : ∀ g, own' g → own g ∨ w.heap.size ≤ g ∨ g < lo) :
    ∀ {m : Nat} {e : El} {t : Dt}, Rep lo own w m e t → Rep lo' own' w m e t
  | 0, _, _, h => False.elim h
  | m + 1, e, t, h => by
    rcases h with h | h | h | h | ⟨hk, es, ts, ht, hl, hrow, hall⟩
    · exact .inl h
    · exact .inr (.inl h)
    · exact .inr (.inr (.inl h))
    · exact .inr (.inr (.inr (.inl h)))
    · refine .inr (.inr (.inr (.inr ⟨hk, es, ts, ht, hl, ⟨hrow.len, ownsRow_lo hrow.owns hlo, fun g hg hv => ?_⟩, fun i x u h1 h2 => Rep.turn hlo ho (hall i x u h1 h2)⟩)))
      have h1 := hrow.owns.lt g hv
      rcases ho g hg with h2 | h2 | h2
      · exact hrow.far g h2 hv
      · omega
      · omega

/-- What a reading function answers: r, as the document has it. -/
def Res (b : Nat) (s : ByteArray) (d : Nat) (r : Py.R) (w : World) (e : Ending) (w' : World) : Prop :=
  Only b w w' ∧
  match r with
  | .inl (c, k) => ∃ N, e = .returned (.tuple #[El.nil.v, .pointer (some ⟨N, 0, none⟩)]) ∧ w.heap.size ≤ N ∧ w'.heap[N]? = some (.cells #[.int .i64 (c : Int), .int .i64 ((s.size - k : Nat) : Int)] 31 (0, 0)) ∧ ∃ p', Rd b s p' d w'
  | .inr (ts, r) => ∃ (x : El) (t : Dt), ts = [t] ∧ e = .returned (.tuple #[x.v, .pointer none]) ∧ Rep w.heap.size NoB w' (32 - d) x t ∧ Rd b s (s.size - r.length) d w'

/-- Five stores into a box. -/
abbrev put6 (w : World) (g : Nat) (v0 v1 v2 v3 v4 v5 : Value) : World := (((((w.setCell ⟨g, 0, none⟩ v0).setCell ⟨g, 1, none⟩ v1).setCell ⟨g, 2, none⟩ v2).setCell ⟨g, 3, none⟩ v3).setCell ⟨g, 4, none⟩ v4).setCell ⟨g, 5, none⟩ v5

theorem put6_grown (w : World) (g : Nat) (v0 v1 v2 v3 v4 v5 : Value) : w.grownBy (put6 w g v0 v1 v2 v3 v4 v5) (some g) :=
  ((((((Only.refl g w).set 0 v0).set 1 v1).set 2 v2).set 3 v3).set 4 v4).set 5 v5

theorem Only.new {b g : Nat} {w w' w2 : World} (h : Only b w w') (hg : w'.grownBy w2 (some g)) (hn : w.heap.size ≤ g) : Only b w w2 :=
  ⟨hg.os.trans h.os, hg.tape.trans h.tape, hg.output.trans h.output, Nat.le_trans h.size hg.size, fun i hi hne => (hg.block i (Nat.lt_of_lt_of_le hi h.size) (by intro e; cases e; omega)).trans (h.block i hi hne)⟩

theorem Only.of {b : Nat} {w w1 w2 : World} (h : Only b w w1) (k : Below w1.heap.size w1 w2) : Only b w w2 :=
  ⟨k.os.trans h.os, k.tape.trans h.tape, k.output.trans h.output, Nat.le_trans h.size k.size, fun i hi hn => (k.block i (Nat.lt_of_lt_of_le hi h.size)).trans (h.block i hi hn)⟩

theorem Rd.kept {b : Nat} {s : ByteArray} {p d : Nat} {w w' : World} {row : Option Nat} (h : Rd b s p d w) (hg : w.grownBy w' row) (hne : some b ≠ row) : Rd b s p d w' := by
  have := h.lt
  unfold Rd at *; rw [hg.block b this hne]; exact h

theorem Rd.below {b : Nat} {s : ByteArray} {p d B : Nat} {w w' : World} (h : Rd b s p d w) (hg : Below B w w') (hb : b < B) : Rd b s p d w' := by
  unfold Rd at *; rw [hg.block b hb]; exact h

theorem Box.below {g B : Nat} {w w' : World} (h : Box g w) (hb : Below B w w') (hg : g < B) : Box g w' := by
  have e : ∀ o, w'.cell? ⟨g, o, none⟩ = w.cell? ⟨g, o, none⟩ := fun o => hb.cell (p := ⟨g, o, none⟩) hg
  have f : ∀ o, w'.frozen? ⟨g, o, none⟩ = w.frozen? ⟨g, o, none⟩ := fun o => hb.frozen (p := ⟨g, o, none⟩) hg
  obtain ⟨c0, c1, c2, c3, c4, c5, fz⟩ := h
  exact ⟨by rw [e]; exact c0, by rw [e]; exact c1, by rw [e]; exact c2, by rw [e]; exact c3, by rw [e]; exact c4, by rw [e]; exact c5, fun o => by rw [f]; exact fz o⟩

theorem Box.new (w : World) (v0 v1 v2 v3 v4 v5 : Value) : Box w.heap.size (w.alloc (.cells #[v0, v1, v2, v3, v4, v5] 39 (0, 0))) := Box.of (heap_alloc_new w _)

theorem Box.set {g b o : Nat} {w : World} (h : Box g w) (hne : g ≠ b) (v : Value) : Box g (w.setCell ⟨b, o, none⟩ v) := by
  have hh := Below.heap_setCell w ⟨b, o, none⟩ v g hne
  have e : ∀ o', (w.setCell ⟨b, o, none⟩ v).cell? ⟨g, o', none⟩ = w.cell? ⟨g, o', none⟩ := fun o' => World.cell?_of_block (w := w) hh
  have f : ∀ o', (w.setCell ⟨b, o, none⟩ v).frozen? ⟨g, o', none⟩ = w.frozen? ⟨g, o', none⟩ := fun o' => World.frozen?_of_block (w := w) hh
  obtain ⟨c0, c1, c2, c3, c4, c5, fz⟩ := h
  exact ⟨by rw [e]; exact c0, by rw [e]; exact c1, by rw [e]; exact c2, by rw [e]; exact c3, by rw [e]; exact c4, by rw [e]; exact c5, fun o => by rw [f]; exact fz o⟩
theorem Box.drewN {g : Nat} {w : World} (h : Box g w) (n : Nat) : Box g (w.drewN n) := ⟨h.c0, h.c1, h.c2, h.c3, h.c4, h.c5, h.fz⟩
/-- A box made behind a store into an elder block. -/
theorem Box.new1 (w : World) (a : Addr) (u v0 v1 v2 v3 v4 v5 : Value) : Box w.heap.size ((w.setCell a u).alloc (.cells #[v0, v1, v2, v3, v4, v5] 39 (0, 0))) := by
  have := Box.new (w.setCell a u) v0 v1 v2 v3 v4 v5
  rwa [show (w.setCell a u).heap.size = w.heap.size from by simp] at this

theorem Box.kept {g : Nat} {w w' : World} {row : Option Nat} (h : Box g w) (hg : w.grownBy w' row) (hne : some g ≠ row) (hlt : g < w.heap.size) : Box g w' := by
  have hh := hg.block g hlt hne
  have e : ∀ o', w'.cell? ⟨g, o', none⟩ = w.cell? ⟨g, o', none⟩ := fun o' => World.cell?_of_block (w := w) hh
  have f : ∀ o', w'.frozen? ⟨g, o', none⟩ = w.frozen? ⟨g, o', none⟩ := fun o' => World.frozen?_of_block (w := w) hh
  obtain ⟨c0, c1, c2, c3, c4, c5, fz⟩ := h
  exact ⟨by rw [e]; exact c0, by rw [e]; exact c1, by rw [e]; exact c2, by rw [e]; exact c3, by rw [e]; exact c4, by rw [e]; exact c5, fun o => by rw [f]; exact fz o⟩
theorem Box.new2 (w : World) (a a' : Addr) (u u' v0 v1 v2 v3 v4 v5 : Value) : Box w.heap.size (((w.setCell a u).setCell a' u').alloc (.cells #[v0, v1, v2, v3, v4, v5] 39 (0, 0))) := by
  have := Box.new ((w.setCell a u).setCell a' u') v0 v1 v2 v3 v4 v5
  rwa [show ((w.setCell a u).setCell a' u').heap.size = w.heap.size from by simp] at this

/-- The end of a function that has failed: the answer lies in box g. -/
theorem Res.err {b : Nat} {s : ByteArray} {d c k N g : Nat} {w w' : World} {z pl : Int} (hO : Only b w w') (hg : w.heap.size ≤ g) (hN0 : w.heap.size ≤ N) (hNg : N ≠ g)
    (hN : w'.heap[N]? = some (.cells #[.int .i64 z, .int .i64 pl] 31 (0, 0))) (hz : z = (c : Int)) (hpl : pl = ((s.size - k : Nat) : Int)) {p' : Nat} (hd : Rd b s p' d w') (hb : b < w.heap.size) (v0 v1 v2 v3 v4 v5 : Value) :
    Res b s d (.inl (c, k)) w (.returned (.tuple #[El.nil.v, .pointer (some ⟨N, 0, none⟩)])) (put6 w' g v0 v1 v2 v3 v4 v5) := by
  subst hz; subst hpl
  exact ⟨hO.new (put6_grown _ _ _ _ _ _ _ _) hg, N, rfl, hN0, by rw [heap_B6 _ _ _ hNg]; exact hN, p', hd.kept (put6_grown _ _ _ _ _ _ _ _) (by intro e; cases e; omega)⟩

/-- The end of a function that has read x. -/
theorem Res.ok {b : Nat} {s : ByteArray} {d p g lo : Nat} {w w' : World} {x : El} {t : Dt} {r : List UInt8} (hO : Only b w w') (hg : w.heap.size ≤ g) (hlo : g < lo) (hb : b < w.heap.size)
    (hR : Rep lo NoB w' (32 - d) x t) (hd : Rd b s p d w') (hp : p = s.size - r.length) (v0 v1 v2 v3 v4 v5 : Value) :
    Res b s d (.inr ([t], r)) w (.returned (.tuple #[x.v, .pointer none])) (put6 w' g v0 v1 v2 v3 v4 v5) := by
  subst hp
  refine ⟨hO.new (put6_grown _ _ _ _ _ _ _ _) hg, x, t, rfl, rfl, Rep.turn (lo := lo) (own := NoB) (by omega) (fun g h => by cases h) (Rep.kept (put6_grown _ _ _ _ _ _ _ _) (fun g' h => by cases h; exact .inl hlo) hR), hd.kept (put6_grown _ _ _ _ _ _ _ _) (by intro e; cases e; omega)⟩

theorem Res.alloc {b : Nat} {s : ByteArray} {d : Nat} {r : Py.R} {w w' : World} {e : Ending} (h : Res b s d r w e w') (o : Obj) : Res b s d r w e (w'.alloc o) := by
  rcases r with ⟨c, k⟩ | ⟨ts, rr⟩
  · obtain ⟨hO, N, he, hN0, hN, p', hR⟩ := h
    exact ⟨hO.alloc o, N, he, hN0, by rw [Below.heap_alloc _ _ _ (Array.getElem?_eq_some_iff.1 hN).1]; exact hN, p', hR.alloc o⟩
  · obtain ⟨hO, x, t, ht, he, hrep, hR⟩ := h
    exact ⟨hO.alloc o, x, t, ht, he, Rep.kept (World.grownBy_alloc w' o none) (fun g h => by cases h) hrep, hR.alloc o⟩

end Go.Proofs.YtbgmenglfgodbaaDoor
