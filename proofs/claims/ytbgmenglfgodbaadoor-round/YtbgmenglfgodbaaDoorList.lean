/-
  OUR OWN. The walk of reader.list.
-/
import Derived.Test.YtbgmenglfgodbaaDoorQuote
import Derived.Deep.AppendLies
namespace Go.Proofs.YtbgmenglfgodbaaDoor
open Go.RowKit

theorem L_suf (s : ByteArray) (q : Nat) (rr : List UInt8) (h : rr <:+ L s q) : L s (s.size - rr.length) = rr := by
  have h2 : rr <:+ s.data.toList := h.trans (by unfold L; exact List.drop_suffix _ _)
  unfold L
  have := List.suffix_iff_eq_drop.1 h2
  rw [show s.size = s.data.toList.length from by simp]
  exact this.symm

/-- The block of a row. -/
def Bl (v : Value) : Nat → Prop := fun k => v.ownBlock = some k

/-- The elements of the row under way. -/
structure Mem (lo m : Nat) (own : Nat → Prop) (w : World) (es : List El) (ts : List Dt) : Prop where
  len : es.length = ts.length
  all : ∀ (i : Nat) (x : El) (u : Dt), es[i]? = some x → ts[i]? = some u → Rep lo own w m x u

theorem Mem.nil (lo m : Nat) (own : Nat → Prop) (w : World) : Mem lo m own w [] [] := ⟨rfl, fun i x u h => by simp at h⟩
theorem Mem.kept {lo m : Nat} {own : Nat → Prop} {row : Option Nat} {w w' : World} {es : List El} {ts : List Dt} (h : Mem lo m own w es ts) (hg : w.grownBy w' row) (hr : ∀ g, row = some g → g < lo ∨ own g) : Mem lo m own w' es ts :=
  ⟨h.len, fun i x u h1 h2 => Rep.kept hg hr (h.all i x u h1 h2)⟩
theorem Mem.turn {lo m : Nat} {own own' : Nat → Prop} {w : World} {es : List El} {ts : List Dt} (h : Mem lo m own w es ts) (ho : ∀ g, own' g → own g ∨ w.heap.size ≤ g ∨ g < lo) : Mem lo m own' w es ts :=
  ⟨h.len, fun i x u h1 h2 => Rep.turn (Nat.le_refl _) ho (h.all i x u h1 h2)⟩
theorem Mem.snoc {lo m : Nat} {own : Nat → Prop} {w : World} {es : List El} {ts : List Dt} (h : Mem lo m own w es ts) {x : El} {t : Dt} (hx : Rep lo own w m x t) : Mem lo m own w (es ++ [x]) (ts ++ [t]) := by
  refine ⟨by simp [h.len], fun i y u h1 h2 => ?_⟩
  rcases Nat.lt_trichotomy i es.length with hi | hi | hi
  · rw [List.getElem?_append_left hi] at h1
    rw [List.getElem?_append_left (by rw [← h.len]; exact hi)] at h2
    exact h.all i y u h1 h2
  · subst hi
    rw [List.getElem?_append_right (Nat.le_refl _)] at h1
    rw [h.len, List.getElem?_append_right (Nat.le_refl _)] at h2
    simp at h1 h2; subst h1; subst h2; exact hx
  · rw [List.getElem?_eq_none (by simp; omega)] at h1; cases h1

/-- What the datum's own call says, at fuel F. -/
def DatumSaid (F : Nat) : Prop := ∀ (b : Nat) (s : ByteArray) (p d : Nat) (w : World), Rd b s p d w → p ≤ s.size → s.size ≤ 1200 → d ≤ 30 → GV w → 6 ≤ b → 2 * (s.size - p) + 1 ≤ F →
  Calls Tryd.prog 16 #[.pointer (some ⟨b, 0, none⟩)] w fun e w' => Res b s d (Py.rd F false d (L s p)) w e w'

def listR (r : Py.R) : Py.R := match r with
  | .inl e => .inl e
  | .inr (xs, rr) => .inr ([.list xs], rr)

theorem info39 : (Tryd.prog.info? 39).map (fun i => (i.zero, i.size, i.bytes)) = some (some (.agg #[.int .i64 0, .int .i64 0, .bool false, .string ⟨#[]⟩, .int .i64 0, .slice none 0 0]), 6, 72) := by kernel_rfl

theorem own_form {w : World} {lo : Nat} {v : Value} {n : Nat} {xs : List Value} (h : w.ownsRow lo 39 6 v n xs) : ∃ a cap, v = .slice a n cap := by
  rcases h.2 with ⟨h1, h2⟩ | ⟨g, cap, cur, h1, _⟩
  · subst h2; exact ⟨_, _, h1⟩
  · exact ⟨_, _, h1⟩

theorem ResN.list {b : Nat} {s : ByteArray} {d p lo : Nat} {w W : World} {a : Option Addr} {cap : Nat} {es : List El} {ts : List Dt} {rr : List UInt8} (hO : Only b w W) (hlo : w.heap.size ≤ lo)
    (hown : W.ownsRow lo 39 6 (.slice a es.length cap) es.length (es.flatMap El.cells)) (hmem : Mem lo (32 - d) (Bl (Value.slice a es.length cap)) W es ts) (hd : d ≤ 30) (hR : Rd b s p d W) (hp : p = s.size - rr.length) :
    ResN b s d (.inr ([.list ts], rr)) w (.returned (.tuple #[El.v ⟨4, 0, false, ⟨#[]⟩, 0, a, es.length, cap⟩, .pointer none])) W := by
  subst hp
  refine ⟨hO, ⟨4, 0, false, ⟨#[]⟩, 0, a, es.length, cap⟩, _, rfl, rfl, ?_, hR⟩
  rw [show 33 - d = (32 - d) + 1 from by omega]
  exact .inr (.inr (.inr (.inr ⟨rfl, es, ts, rfl, hmem.len, ⟨rfl, ownsRow_lo hown hlo, fun g h => by cases h⟩, fun i x u h1 h2 => Rep.turn hlo (fun g h => by cases h) (hmem.all i x u h1 h2)⟩)))

theorem ResN.alloc {b : Nat} {s : ByteArray} {d : Nat} {r : Py.R} {w w' : World} {e : Ending} (h : ResN b s d r w e w') (o : Obj) : ResN b s d r w e (w'.alloc o) := by
  rcases r with ⟨c, k⟩ | ⟨ts, rr⟩
  · obtain ⟨hO, N, he, hN0, hN, p', hR⟩ := h
    exact ⟨hO.alloc o, N, he, hN0, by rw [Below.heap_alloc _ _ _ (Array.getElem?_eq_some_iff.1 hN).1]; exact hN, p', hR.alloc o⟩
  · obtain ⟨hO, x, t, ht, he, hrep, hR⟩ := h
    exact ⟨hO.alloc o, x, t, ht, he, Rep.kept (World.grownBy_alloc w' o none) (fun g h => by cases h) hrep, hR.alloc o⟩

theorem list_fin {b : Nat} {s : ByteArray} {d p g : Nat} {w W : World} {a : Option Addr} {cap : Nat} {es : List El} {ts : List Dt} {rr : List UInt8} (hO : Only b w W) (hg : w.heap.size = g) (hb : b < w.heap.size)
    (hown : W.ownsRow (g + 1) 39 6 (.slice a es.length cap) es.length (es.flatMap El.cells)) (hmem : Mem (g + 1) (32 - d) (Bl (Value.slice a es.length cap)) W es ts) (hd : d ≤ 30) (hR : Rd b s p d W) (hp : p = s.size - rr.length) (v0 v1 v2 v3 v4 v5 : Value) :
    ResN b s d (.inr ([.list ts], rr)) w (.returned (.tuple #[El.v ⟨4, 0, false, ⟨#[]⟩, 0, a, es.length, cap⟩, .pointer none])) (put6 W g v0 v1 v2 v3 v4 v5) := by
  have hp5 := put6_grown W g v0 v1 v2 v3 v4 v5
  refine ResN.list (lo := g + 1) (hO.new hp5 (by omega)) (by omega) (hown.kept hp5 ?_) (hmem.kept hp5 (fun g' h => by cases h; left; omega)) hd (hR.kept hp5 (by intro e; cases e; omega)) hp
  cases hv : (Value.slice a es.length cap).ownBlock with
  | none => exact .inl rfl
  | some k => right; intro e; cases e; have := (hown.lt _ hv).1; omega

/-- The members so far, and what is still to be read. -/
def LRel (F b : Nat) (s : ByteArray) (p d : Nat) (w : World) (mv : Value) (wr : World) : Prop :=
  ∃ (q f : Nat) (es : List El) (ts : List Dt), p ≤ q ∧ q ≤ s.size ∧ Px.skip false (L s q) = L s q ∧ Rd b s q d wr ∧ Only b w wr ∧ Box w.heap.size wr ∧ w.heap.size < wr.heap.size ∧
    wr.ownsRow (w.heap.size + 1) 39 6 mv es.length (es.flatMap El.cells) ∧ Mem (w.heap.size + 1) (32 - d) (Bl mv) wr es ts ∧ es.length ≤ q ∧ f ≤ F ∧ 2 * (s.size - q) + 2 ≤ f ∧
    Py.rd F true d (L s p) = Py.pre ts (Py.rd f true d (L s q))

theorem own_only {w w' : World} {lo b : Nat} {v : Value} {n : Nat} {xs : List Value} (h : w.ownsRow lo 39 6 v n xs) (hO : Only b w w') (hb : b < lo) : w'.ownsRow lo 39 6 v n xs := by
  refine h.kept hO ?_
  cases hv : v.ownBlock with
  | none => exact .inl rfl
  | some k => right; intro e; cases e; have := (h.lt _ hv).1; omega
theorem Mem.only {lo m b : Nat} {own : Nat → Prop} {w w' : World} {es : List El} {ts : List Dt} (h : Mem lo m own w es ts) (hO : Only b w w') (hb : b < lo) : Mem lo m own w' es ts :=
  h.kept hO (fun g e => by cases e; left; exact hb)

theorem Only.newO {b : Nat} {row : Option Nat} {w w' w2 : World} (h : Only b w w') (hg : w'.grownBy w2 row) (hn : ∀ g, row = some g → w.heap.size ≤ g) : Only b w w2 :=
  ⟨hg.os.trans h.os, hg.tape.trans h.tape, hg.output.trans h.output, Nat.le_trans h.size hg.size, fun i hi hne => (hg.block i (Nat.lt_of_lt_of_le hi h.size) (by intro e; have := hn i e.symm; omega)).trans (h.block i hi hne)⟩

/-- A datum laid behind the row: the row's new elements. -/
theorem Mem.grow {lo m : Nat} {v : Value} {g H : Nat} {w w' : World} {es : List El} {ts : List Dt} (h : Mem lo m (Bl v) w es ts) (hg : w.grownBy w' v.ownBlock) (hat : v.ownBlock = some g ∨ g = H) (hH : w.heap.size = H) {sl : Value} (hsl : sl.ownBlock = some g)
    {x : El} {t : Dt} {lo2 : Nat} (hx : Rep lo2 NoB w m x t) (hlo : lo ≤ lo2) (hv : ∀ k, v.ownBlock = some k → k < lo2) : Mem lo m (Bl sl) w' (es ++ [x]) (ts ++ [t]) := by
  have h1 : Mem lo m (fun k => Bl v k ∨ k = g) w es ts := h.turn (fun k hk => by
    rcases hk with hk | hk
    · exact .inl hk
    · subst hk
      rcases hat with ha | ha
      · exact .inl ha
      · right; left; omega)
  have h3 : Rep lo (fun k => Bl v k ∨ k = g) w m x t := Rep.turn hlo (fun k hk => by
    right
    rcases hk with hk | hk
    · right; exact hv k hk
    · subst hk
      rcases hat with ha | ha
      · right; exact hv _ ha
      · left; omega) hx
  have h4 := (h1.snoc h3).kept hg (fun k hk => .inr (.inl hk))
  exact h4.turn (fun k hk => .inl (.inr (by unfold Bl at hk; rw [hsl] at hk; cases hk; rfl)))

set_option maxHeartbeats 1000000 in
theorem list_any (F b : Nat) (s : ByteArray) (p d : Nat) (w : World) (h : Rd b s p d w) (hp : p ≤ s.size) (hs : s.size ≤ 1200) (hd30 : d ≤ 30) (hG : GV w) (hb6 : 6 ≤ b) (hF : 2 * (s.size - p) + 2 ≤ F)
    (hD : ∀ F', F' < F → DatumSaid F') :
    Calls Tryd.prog 27 #[.pointer (some ⟨b, 0, none⟩)] w fun e w' => ResN b s d (listR (Py.rd F true d (L s p))) w e w' := by
  have hb := h.lt
  have HR := Lib.hid h
  have HG := Lib.hid hG
  have HD := Lib.hid hD
  clear h hG hD
  go_enter Tryd.func27, Tryd.ntmps27
  go_wp2_with (go_at_call 14; refine (skip_any b s p d _ (HR.out.alloc _) hp hs).mono ?_; rintro e w1 ⟨rfl, q0, hpq0, hq0, hsk0, hR0, hO0⟩; refine Hid.out ?_)
  have HR0 := Lib.hid hR0
  have HO0 := Lib.hid (((Only.refl b w).alloc _).trans hO0)
  have hz0 : w.heap.size < w1.heap.size := by have := hO0.size; simp at this; omega
  have HX0 := Lib.hid ((Box.new w _ _ _ _ _ _).kept hO0 (by intro e; cases e; omega) (by simp))
  have HSK0 := Lib.hid hsk0
  clear hR0 hO0 hsk0
  refine Lib.hid ?_
  go_wp2
  go_loopw [4] (LRel F b s p d w) (fun _ wr => s.size - posOf b wr)
  case atStart => exact ⟨q0, F, [], [], hpq0, hq0, by rw [← HSK0.out, Px.skip_idem], HR0.out, HO0.out, HX0.out, hz0, World.ownsRow_nil _ _ _ _, Mem.nil _ _ _ _, by simp, Nat.le_refl _, by omega, by rw [← HSK0.out, Py.rd_skip, Py.pre_nil]⟩
  case round =>
    obtain ⟨q, f, es, ts, hpq, hq, hsk, hR, hO, hX, hz, hown, hmem, hle, hfF, hfq, heq⟩ := hrel
    obtain ⟨f, rfl⟩ : ∃ f', f = f' + 1 := ⟨f - 1, by omega⟩
    obtain ⟨i0, hi, hz0', hz1', hz2'⟩ := info_parts info39
    have HRq := Lib.hid hR
    have HO := Lib.hid hO
    have HX := Lib.hid hX
    have HOwn := Lib.hid hown
    have HMem := Lib.hid hmem
    have HEq := Lib.hid heq
    have HSk := Lib.hid hsk
    have HPos : Hid (posOf b wr = q) := hR.pos
    clear hR hO hX hmem heq hsk hown
    by_cases hcl : ∃ hlt : q < s.size, ((s[q].toNat : Int) == 41) = true
    · obtain ⟨hlt, hc⟩ := hcl
      have h1' := HRq.out.c1
      have hf' := HRq.out.fz 1
      have hb' := HRq.out.lt
      obtain ⟨a, cap, rfl⟩ := own_form HOwn.out
      have HT : Hid (listR (Py.rd F true d (L s p)) = .inr ([.list ts], L s (q + 1))) := by
        show _ = _
        rw [HEq.out, L_lt s q hlt, Py.rd_true_close f d _ _ (by have := beq_iff_eq.1 hc; omega)]
        simp [Py.pre, listR]
      obtain ⟨⟨y0, k0⟩, ⟨y1, k1⟩, ⟨y2, k2⟩, ⟨y3, k3⟩, ⟨y4, k4⟩, ⟨y5, k5⟩, kf⟩ := HX.out
      have hbn : ¬ b = w.heap.size := by omega
      have hbn' : ¬ w.heap.size = b := by omega
      go_wp2_with (first | (go_at_call 44; refine (starts_in b s q d _ _ HRq.out hlt).mono ?_; rintro e w' ⟨rfl, n1, rfl⟩) | (go_at_call 45; refine (ofList_ex _ _ _ _).mono ?_; rintro e w2 ⟨rfl, rfl⟩))
      refine bodyPost_ret (v := .tuple #[El.v ⟨4, 0, false, ⟨#[]⟩, 0, a, es.length, cap⟩, .pointer none]) (by simp [results, Tryd.results27, go_sem, *]) rfl ?_
      rw [HT.out]
      have hst : Only b wr ((wr.drewN n1).setCell ⟨b, 1, none⟩ (Value.int IntKind.i64 (↑q + 1))) := ((Only.refl b wr).drewN _).set _ _
      exact (list_fin (HO.out.trans hst) rfl hb (own_only HOwn.out hst (by omega)) (HMem.out.only hst (by omega)) hd30 ((HRq.out.drewN _).set1 (q + 1) _ (by omega)) (by rw [L_len]; omega) _ _ _ _ _ _).alloc _
    · have hno : ∀ c r, L s q = c :: r → c.toNat ≠ 41 := by
        intro c r e h41
        have hlt : q < s.size := by
          rcases Nat.lt_or_ge q s.size with h' | h'
          · exact h'
          · rw [L_end s q h'] at e; cases e
        rw [L_lt s q hlt] at e
        have hc : s[q] = c := by injection e
        exact hcl ⟨hlt, by rw [hc, h41]; rfl⟩
      have hst : ∀ w0, Rd b s q d w0 → Calls Tryd.prog 44 #[.pointer (some ⟨b, 0, none⟩), .int .u8 41] w0 fun e w' => e = .returned (.bool false) ∧ ∃ n, w' = w0.drewN n := by
        intro w0 hR0
        by_cases hlt : q < s.size
        · have hc : ((s[q].toNat : Int) == 41) = false := by
            cases hc : ((s[q].toNat : Int) == 41) with
            | false => rfl
            | true => exact absurd ⟨hlt, hc⟩ hcl
          have := starts_in b s q d 41 w0 hR0 hlt
          rw [hc] at this; exact this
        · exact starts_end b s q d 41 w0 hR0 (by omega)
      have HSt := Lib.hid hst
      have HNo := Lib.hid hno
      clear hst hno hcl
      have HDf := Lib.hid (HD.out f (by omega) b s q d)
      cases hr : Py.rd f false d (L s q) with
      | inl ck =>
        obtain ⟨c, k⟩ := ck
        have HT : Hid (listR (Py.rd F true d (L s p)) = .inl (c, k)) := by
          show _ = _
          rw [HEq.out, Py.rd_true_bad f d _ HSk.out HNo.out (c, k) hr (by omega)]; rfl
        have HDe : Hid (∀ w0, Rd b s q d w0 → GV w0 → Calls Tryd.prog 16 #[.pointer (some ⟨b, 0, none⟩)] w0 fun e w' => Res b s d (.inl (c, k)) w0 e w') := by
          intro w0 h1 h2
          have := HDf.out w0 h1 hq hs hd30 h2 hb6 (by omega)
          rw [hr] at this; exact this
        clear hr HDf
        go_wp2_with (first | (go_at_call 44; refine (HSt.out _ HRq.out).mono ?_; rintro e w' ⟨rfl, n1, rfl⟩) | (go_at_call 16; refine (HDe.out _ (by exact HRq.out.drewN _) (by exact (HG.out.only (HO.out.drewN _) hb6 (by omega)))).mono ?_; rintro e w1 ⟨hO, N, rfl, hN0, hN, p', hR1⟩; refine Hid.out ?_))
        have hz1 : wr.heap.size ≤ w1.heap.size := by have := hO.size; simpa using this
        have hzl : w.heap.size < w1.heap.size := by omega
        have HO1 := Lib.hid ((HO.out.drewN _).trans hO)
        have HR1 := Lib.hid hR1
        have hN9 : w.heap.size + 1 ≤ N := by simp at hN0; omega
        have HN := Lib.hid hN
        obtain ⟨⟨y0, k0⟩, ⟨y1, k1⟩, ⟨y2, k2⟩, ⟨y3, k3⟩, ⟨y4, k4⟩, ⟨y5, k5⟩, kf⟩ := (HX.out.drewN _).kept hO (by intro e; cases e; omega) (by simpa using hz)
        clear hO hN hN0 hR1
        refine Lib.hid ?_
        go_wp2
        refine bodyPost_ret (v := .tuple #[El.nil.v, .pointer (some ⟨N, 0, none⟩)]) (by simp [results, Tryd.results27, go_sem, *]) rfl ?_
        rw [HT.out]
        exact (Res.err HO1.out (Nat.le_refl _) (by omega) (by omega) HN.out rfl rfl HR1.out hb _ _ _ _ _ _).alloc _
      | inr xr =>
        obtain ⟨xs, rr⟩ := xr
        obtain ⟨hsuf, hlen, hone⟩ := Py.rd_short f false d (L s q) xs rr hr
        obtain ⟨t, rfl⟩ := hone rfl
        have HT := Lib.hid (Py.rd_true_more f d _ HSk.out HNo.out _ _ hr)
        have HDe : Hid (∀ w0, Rd b s q d w0 → GV w0 → Calls Tryd.prog 16 #[.pointer (some ⟨b, 0, none⟩)] w0 fun e w' => Res b s d (.inr ([t], rr)) w0 e w') := by
          intro w0 h1 h2
          have := HDf.out w0 h1 hq hs hd30 h2 hb6 (by omega)
          rw [hr] at this; exact this
        have hLr := L_suf s q rr hsuf
        have HLr := Lib.hid hLr
        rw [L_len] at hlen
        clear hr HDf hsuf hLr hone
        go_wp2_with (first | (go_at_call 44; refine (HSt.out _ HRq.out).mono ?_; rintro e w' ⟨rfl, n1, rfl⟩) | (go_at_call 16; refine (HDe.out _ (by exact HRq.out.drewN _) (by exact (HG.out.only (HO.out.drewN _) hb6 (by omega)))).mono ?_; rintro e w1 ⟨hO, x, t', ht, rfl, hrep, hrd⟩; refine Hid.out ?_))
        obtain rfl : t' = t := (List.cons.inj ht).1.symm
        clear ht
        have hz1 : wr.heap.size ≤ w1.heap.size := by have := hO.size; simpa using this
        have hzl : w.heap.size < w1.heap.size := by omega
        have hOr : Only b wr w1 := ((Only.refl b wr).drewN n1).trans hO
        have HO1 := Lib.hid (HO.out.trans hOr)
        have HR1 := Lib.hid hrd
        have HX1 := Lib.hid (HX.out.kept hOr (by intro e; cases e; omega) hz)
        have hown1 := own_only HOwn.out hOr (by omega)
        have HMem1 := Lib.hid (HMem.out.only hOr (by omega))
        have HRep := Lib.hid hrep
        have HOwn1 := Lib.hid hown1
        have HV : Hid (∀ k, u4.ownBlock = some k → k < wr.heap.size) := fun k hk => (HOwn.out.lt k hk).2
        have hb1 : b < w1.heap.size := hrd.lt
        clear hO hOr hrd hrep hown1 HOwn HMem HDe
        obtain ⟨xk, xn, xtr, xtx, xm, xa, xlen, xcap⟩ := x
        refine Lib.hid ?_
        go_wp2_with (at_builtin; refine wpList_append_lies _ rfl _ _ 37 rfl (w.heap.size + 1) 39 i0 (.agg #[.int .i64 0, .int .i64 0, .bool false, .string ⟨#[]⟩, .int .i64 0, .slice none 0 0]) 6 72 Tryd.underlying37 hi hz0' hz1' hz2' rfl (by decide) _ _ _ rfl ((HOwn1.out.alloc _).alloc _) ⟨w1.heap.size + 1, 0, none⟩ 1 1 [.int .i64 xk, .int .i64 xn, .bool xtr, .string xtx, .int .i64 xm, .slice xa xlen xcap] rfl rfl ?c1 ?c2 (by decide) ?c3 ?c4 ?c5 (w1.heap.size + 1 + 1) ?c6 ?_)
        case c1 => exact World.news_of_block (cs := #[.int .i64 xk, .int .i64 xn, .bool xtr, .string xtx, .int .i64 xm, .slice xa xlen xcap]) (new2 _ _ _)
        case c2 => intro u hu; simp at hu; rcases hu with rfl | rfl | rfl | rfl | rfl | rfl <;> rfl
        case c3 => unfold maxLen; omega
        case c4 => omega
        case c5 => simp; omega
        case c6 => simp
        intro g cap w3 hown3 hgrow3 hat3 hlt3
        refine Hid.out ?_
        have HO3 := Lib.hid (((HO1.out.alloc _).alloc _).newO hgrow3 (fun k h => by have := (HOwn1.out.lt k h).1; omega))
        have HR3 := Lib.hid (((HR1.out.alloc _).alloc _).kept hgrow3 (by intro e; have := (HOwn1.out.lt b e.symm).1; omega))
        have HX3 := Lib.hid (((HX1.out.kept (World.grownBy_alloc _ _ none) (by simp) hzl).kept (World.grownBy_alloc _ _ none) (by simp) (by simp; omega)).kept hgrow3 (by intro e; have := (HOwn1.out.lt _ e.symm).1; omega) (by simp; omega))
        have hz3 : w.heap.size < w3.heap.size := by have := hgrow3.size; simp at this; omega
        have hga := World.grownBy_alloc w1 (Obj.cells #[Value.int IntKind.i64 xk, Value.int IntKind.i64 xn, Value.bool xtr, Value.string xtx, Value.int IntKind.i64 xm, Value.slice xa xlen xcap] 39) none
        have hgb := World.grownBy_alloc (w1.alloc (Obj.cells #[Value.int IntKind.i64 xk, Value.int IntKind.i64 xn, Value.bool xtr, Value.string xtx, Value.int IntKind.i64 xm, Value.slice xa xlen xcap] 39)) (Obj.cells #[Value.int IntKind.i64 xk, Value.int IntKind.i64 xn, Value.bool xtr, Value.string xtx, Value.int IntKind.i64 xm, Value.slice xa xlen xcap] 39) none
        have HMem3 := Lib.hid (Mem.grow (sl := .slice (some ⟨g, 0, none⟩) (es.length + 1) cap) (x := ⟨xk, xn, xtr, xtx, xm, xa, xlen, xcap⟩) (lo2 := wr.heap.size) ((HMem1.out.kept hga (fun g h => by cases h)).kept hgb (fun g h => by cases h)) hgrow3 hat3 (by simp) rfl (Rep.kept hgb (fun g h => by cases h) (Rep.kept hga (fun g h => by cases h) HRep.out)) (by omega) HV.out)
        have HOwn3 := Lib.hid hown3
        have HX4 : Hid (List.flatMap El.cells es ++ [Value.int IntKind.i64 xk, Value.int IntKind.i64 xn, Value.bool xtr, Value.string xtx, Value.int IntKind.i64 xm, Value.slice xa xlen xcap] = List.flatMap El.cells (es ++ [⟨xk, xn, xtr, xtx, xm, xa, xlen, xcap⟩])) := by
          show _ = _
          simp [El.cells]
        clear hown3 hgrow3 hat3 hlt3 hga hgb HOwn1 HMem1 HX1 HR1 HO1 HRep HV
        refine Lib.hid ?_
        go_wp2_with (go_at_call 14; refine (skip_any b s (s.size - rr.length) d _ HR3.out (by omega) hs).mono ?_; rintro e w4 ⟨rfl, q2, hq21, hq22, hsk2, hR4, hO4⟩; refine Hid.out ?_)
        have HO4 := Lib.hid (HO3.out.trans hO4)
        have HR4 := Lib.hid hR4
        have HX5 := Lib.hid (HX3.out.kept hO4 (by intro e; cases e; omega) hz3)
        have hz4 : w.heap.size < w4.heap.size := by have := hO4.size; omega
        have HOwn4 := Lib.hid (own_only HOwn3.out hO4 (by omega))
        have HMem4 := Lib.hid (HMem3.out.only hO4 (by omega))
        have HSk2 := Lib.hid hsk2
        have HPos4 : Hid (posOf b w4 = q2) := hR4.pos
        clear hR4 hO4 hsk2
        refine Lib.hid ?_
        go_wp2
        go_roundw
        case rel =>
          refine ⟨q2, f, es ++ [⟨xk, xn, xtr, xtx, xm, xa, xlen, xcap⟩], ts ++ [t'], by omega, hq22, by rw [← HSk2.out, Px.skip_idem], HR4.out, HO4.out, HX5.out, hz4, ?_, HMem4.out, by simp; omega, by omega, by omega, ?_⟩
          · rw [← HX4.out]; simpa using HOwn4.out
          · rw [HEq.out, HT.out, Py.pre_pre, ← HSk2.out, HLr.out]
        case measure =>
          have e1 := HPos.out
          have e2 := HPos4.out
          rw [e1, e2]; omega

end Go.Proofs.YtbgmenglfgodbaaDoor
