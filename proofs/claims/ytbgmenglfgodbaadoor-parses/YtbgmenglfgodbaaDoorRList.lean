/-
  OUR OWN. The walk of the document's own list.
-/
import Derived.Test.YtbgmenglfgodbaaDoorRAtom
import Derived.Deep.AppendLies
import Derived.Test.YtbgmenglfgodbaaDoorAgain
namespace Go.Proofs.YtbgmenglfgodbaaDoor
open Go.RowKit

structure MemR (lo m : Nat) (own : Nat → Prop) (w : World) (gs : List Nat) (ts : List (List UInt8)) : Prop where
  len : gs.length = ts.length
  all : ∀ (i : Nat) (h : Nat) (u : List UInt8), gs[i]? = some h → ts[i]? = some u → RepR lo own w m h u

theorem MemR.nil (lo m : Nat) (own : Nat → Prop) (w : World) : MemR lo m own w [] [] := ⟨rfl, fun i x u h => by simp at h⟩
theorem MemR.kept {lo m : Nat} {own : Nat → Prop} {row : Option Nat} {w w' : World} {gs : List Nat} {ts : List (List UInt8)} (h : MemR lo m own w gs ts) (hg : w.grownBy w' row) (hr : ∀ g, row = some g → g < lo ∨ own g) : MemR lo m own w' gs ts :=
  ⟨h.len, fun i x u h1 h2 => RepR.kept hg hr (h.all i x u h1 h2)⟩
theorem MemR.turn {lo lo' m : Nat} {own own' : Nat → Prop} {w : World} {gs : List Nat} {ts : List (List UInt8)} (h : MemR lo m own w gs ts) (hlo : lo' ≤ lo) (ho : ∀ g, own' g → own g ∨ w.heap.size ≤ g ∨ g < lo) : MemR lo' m own' w gs ts :=
  ⟨h.len, fun i x u h1 h2 => RepR.turn hlo ho (h.all i x u h1 h2)⟩
theorem MemR.snoc {lo m : Nat} {own : Nat → Prop} {w : World} {gs : List Nat} {ts : List (List UInt8)} (h : MemR lo m own w gs ts) {x : Nat} {t : List UInt8} (hx : RepR lo own w m x t) : MemR lo m own w (gs ++ [x]) (ts ++ [t]) := by
  refine ⟨by simp [h.len], fun i y u h1 h2 => ?_⟩
  rcases Nat.lt_trichotomy i gs.length with hi | hi | hi
  · rw [List.getElem?_append_left hi] at h1
    rw [List.getElem?_append_left (by rw [← h.len]; exact hi)] at h2
    exact h.all i y u h1 h2
  · subst hi
    rw [List.getElem?_append_right (Nat.le_refl _)] at h1
    rw [h.len, List.getElem?_append_right (Nat.le_refl _)] at h2
    simp at h1 h2; subst h1; subst h2; exact hx
  · rw [List.getElem?_eq_none (by simp; omega)] at h1; cases h1
theorem MemR.only {lo m b : Nat} {own : Nat → Prop} {w w' : World} {gs : List Nat} {ts : List (List UInt8)} (h : MemR lo m own w gs ts) (hO : Only b w w') (hb : b < lo) : MemR lo m own w' gs ts :=
  h.kept hO (fun g e => by cases e; left; exact hb)
theorem MemR.grow {lo m : Nat} {v : Value} {g H : Nat} {w w' : World} {gs : List Nat} {ts : List (List UInt8)} (h : MemR lo m (Bl v) w gs ts) (hg : w.grownBy w' v.ownBlock) (hat : v.ownBlock = some g ∨ g = H) (hH : w.heap.size = H) {sl : Value} (hsl : sl.ownBlock = some g)
    {x : Nat} {t : List UInt8} {lo2 : Nat} (hx : RepR lo2 NoB w m x t) (hlo : lo ≤ lo2) (hv : ∀ k, v.ownBlock = some k → k < lo2) : MemR lo m (Bl sl) w' (gs ++ [x]) (ts ++ [t]) := by
  have h1 : MemR lo m (fun k => Bl v k ∨ k = g) w gs ts := h.turn (Nat.le_refl _) (fun k hk => by
    rcases hk with hk | hk
    · exact .inl hk
    · subst hk
      rcases hat with ha | ha
      · exact .inl ha
      · right; left; omega)
  have h3 : RepR lo (fun k => Bl v k ∨ k = g) w m x t := RepR.turn hlo (fun k hk => by
    right
    rcases hk with hk | hk
    · right; exact hv k hk
    · subst hk
      rcases hat with ha | ha
      · right; exact hv _ ha
      · left; omega) hx
  have h4 := (h1.snoc h3).kept hg (fun k hk => .inr (.inl hk))
  exact h4.turn (Nat.le_refl _) (fun k hk => .inl (.inr (by unfold Bl at hk; rw [hsl] at hk; cases hk; rfl)))

theorem own1_only {w w' : World} {lo b : Nat} {v : Value} {n : Nat} {xs : List Value} (h : w.ownsRow lo 56 1 v n xs) (hO : Only b w w') (hb : b < lo) : w'.ownsRow lo 56 1 v n xs := by
  refine h.kept hO ?_
  cases hv : v.ownBlock with
  | none => exact .inl rfl
  | some k => right; intro e; cases e; have := (h.lt _ hv).1; omega

theorem own1_form {w : World} {lo : Nat} {v : Value} {n : Nat} {xs : List Value} (h : w.ownsRow lo 56 1 v n xs) : ∃ a cap, v = .slice a n cap := by
  rcases h.2 with ⟨h1, h2⟩ | ⟨g, cap, cur, h1, _⟩
  · subst h2; exact ⟨_, _, h1⟩
  · exact ⟨_, _, h1⟩

theorem info56 : (Tryd.prog.info? 56).map (fun i => (i.zero, i.size, i.bytes)) = some (some (.pointer none), 1, 8) := by kernel_rfl

def RDatumSaid (F : Nat) : Prop := ∀ (b : Nat) (s : ByteArray) (p d : Nat) (w : World), Rr b s p 0 0 w → p < s.size → Px.skip false (L s p) = L s p → s.size ≤ 1200 → d ≤ 30 → 2 * (s.size - p) + 1 ≤ F →
  Calls Tryd.prog 22 #[.pointer (some ⟨b, 0, none⟩), .int .i64 (d : Int)] w fun e w' => ResR b s d (Px.rd F false d (L s p)) w e w'

/-- The list under way in block g0. -/
def Under (g0 : Nat) (a : Option Addr) (len cap : Nat) (fr : Int) (w : World) : Prop := w.heap[g0]? = some (.cells #[.int .u8 108, .int .i64 0, .string ⟨#[]⟩, .slice a len cap, .int .i64 0, .int .i64 fr] 79 (0, 0))

theorem Under.c3 {g0 : Nat} {a : Option Addr} {len cap : Nat} {fr : Int} {w : World} (h : Under g0 a len cap fr w) : w.cell? ⟨g0, 3, none⟩ = some (.slice a len cap) := by
  unfold Under at h; simp [World.cell?, h]
theorem Under.fz {g0 : Nat} {a : Option Addr} {len cap : Nat} {fr : Int} {w : World} (h : Under g0 a len cap fr w) (o : Nat) : w.frozen? ⟨g0, o, none⟩ = false := by
  unfold Under at h; simp [World.frozen?, h]
theorem Under.lt {g0 : Nat} {a : Option Addr} {len cap : Nat} {fr : Int} {w : World} (h : Under g0 a len cap fr w) : g0 < w.heap.size := (Array.getElem?_eq_some_iff.1 h).1
theorem Under.kept {g0 : Nat} {a : Option Addr} {len cap : Nat} {fr : Int} {w w' : World} {row : Option Nat} (h : Under g0 a len cap fr w) (hg : w.grownBy w' row) (hne : some g0 ≠ row) : Under g0 a len cap fr w' := by
  have := h.lt
  unfold Under at *; rw [hg.block g0 this hne]; exact h
theorem Under.set {g0 : Nat} {a a' : Option Addr} {len cap len' cap' : Nat} {fr : Int} {w : World} (h : Under g0 a len cap fr w) : Under g0 a' len' cap' fr (w.setCell ⟨g0, 3, none⟩ (.slice a' len' cap')) := by
  unfold Under at *; simp [World.setCell, Array.getElem?_modify, h]

/-- How much is left: nothing, once something is wrong. -/
def leftR (b : Nat) (s : ByteArray) (w : World) : Nat := match w.cell? ⟨b, 2, none⟩ with | some (.int _ 0) => s.size - posOf b w + 1 | _ => 0
theorem leftR_ok {b : Nat} {s : ByteArray} {q A : Nat} {w : World} (h : Rr b s q 0 A w) : leftR b s w = s.size - q + 1 := by
  unfold leftR; rw [h.c2, h.pos]; rfl
theorem leftR_bad {b : Nat} {s : ByteArray} {q E A : Nat} {w : World} (h : Rr b s q E A w) (hE : E ≠ 0) : leftR b s w = 0 := by
  unfold leftR; rw [h.c2]
  cases E with
  | zero => exact absurd rfl hE
  | succ n => rfl

theorem rd_true_nil (f d : Nat) (l : List UInt8) (h : Px.skip false l = []) : Px.rd (f + 1) true d l = .inl (3, 0) := by
  rw [Px.rd, h]

theorem ResR.list {b : Nat} {s : ByteArray} {d p : Nat} {w w1 W : World} {a : Option Addr} {cap : Nat} {fr : Int} {gs : List Nat} {ts : List (List UInt8)} {rr : List UInt8} (hW : Only b w1 W) (hO : Only b w w1) (hU : Under w.heap.size a gs.length cap fr w1)
    (hown : w1.ownsRow (w.heap.size + 1) 56 1 (.slice a gs.length cap) gs.length (gs.map ptrV)) (hmem : MemR (w.heap.size + 1) (31 - d) (Bl (.slice a gs.length cap)) w1 gs ts) (hb : b < w.heap.size) (hd : d ≤ 30) (hR : Rr b s p 0 0 W) (hp : p = s.size - rr.length) :
    ResR b s d (.inr ([Px.paren ts], rr)) w (.returned (ptrV w.heap.size)) W := by
  subst hp
  have hU' := hU.kept hW (by intro e; cases e; omega)
  have hown' := own1_only hown hW (by omega)
  have hmem' := hmem.only hW (by omega)
  refine ⟨w.heap.size, rfl, Nat.le_refl _, hO.trans hW, _, rfl, ?_, hR⟩
  rw [show 32 - d = (31 - d) + 1 from by omega]
  refine ⟨Nat.le_refl _, fun h => h, ⟨108, 0, ⟨#[]⟩, a, gs.length, cap, 0, fr⟩, hU', .inr (.inr (.inr (.inr ⟨rfl, gs, ts, rfl, hmem'.len, rfl, ownsRow_lo hown' (Nat.le_succ _), fun k h => False.elim h, ?_⟩)))⟩
  exact fun i h u h1 h2 => RepR.turn (Nat.le_succ _) (fun _ h => False.elim h) (hmem'.all i h u h1 h2)

/-- What holds at the head of each round. -/
def RRel (F b : Nat) (s : ByteArray) (p d g0 : Nat) (fr : Int) (w : World) (wr : World) : Prop :=
  (∃ (q f : Nat) (a : Option Addr) (cap : Nat) (gs : List Nat) (ts : List (List UInt8)), p ≤ q ∧ q ≤ s.size ∧ Rr b s q 0 0 wr ∧ Only b w wr ∧ Under g0 a gs.length cap fr wr ∧ wr.ownsRow (g0 + 1) 56 1 (.slice a gs.length cap) gs.length (gs.map ptrV) ∧ MemR (g0 + 1) (31 - d) (Bl (.slice a gs.length cap)) wr gs ts ∧ gs.length ≤ q ∧ f ≤ F ∧ 2 * (s.size - q) + 2 ≤ f ∧
    Px.rd F true (d + 1) (L s p) = Px.pre ts (Px.rd f true (d + 1) (L s q))) ∨
  (∃ (q c k : Nat), c ≠ 0 ∧ Rr b s q c (s.size - k) wr ∧ Only b w wr ∧ Px.rd F true (d + 1) (L s p) = .inl (c, k))

set_option maxRecDepth 100000 in
set_option maxHeartbeats 1000000 in
theorem list_ref (F b : Nat) (s : ByteArray) (p d : Nat) (fr : Int) (w : World) (h : Rr b s p 0 0 w) (hp : p ≤ s.size) (hs : s.size ≤ 1200) (hd30 : d < 30) (hF : 2 * (s.size - p) + 2 ≤ F)
    (hD : ∀ F', F' < F → RDatumSaid F') :
    Calls Tryd.prog 39 #[.pointer (some ⟨b, 0, none⟩), .int .i64 fr, .int .i64 (d : Int)] w fun e w' => ResR b s d (Xt.listR (Px.rd F true (d + 1) (L s p))) w e w' := by
  have hb := h.lt
  have HR := Lib.hid h
  have HD := Lib.hid hD
  clear h hD
  go_enter Tryd.func39, Tryd.ntmps39
  go_wp2
  go_loopw [] (RRel F b s p d w.heap.size fr w) (fun wr => leftR b s wr)
  case atStart => exact .inl ⟨p, F, none, 0, [], [], Nat.le_refl _, hp, HR.out.alloc _, (Only.refl b w).alloc _, heap_alloc_new _ _, World.ownsRow_nil _ _ _ _, MemR.nil _ _ _ _, by simp, Nat.le_refl _, hF, by rw [Px.pre_nil]⟩
  case round =>
    rcases hrel with ⟨q, f, a, cap, gs, ts, hpq, hq, hR, hO, hU, hown, hmem, hle, hfF, hfq, heq⟩ | ⟨q, c, k, hc, hR, hO, heq⟩
    · obtain ⟨f, rfl⟩ : ∃ f', f = f' + 1 := ⟨f - 1, by omega⟩
      obtain ⟨i0, hi, hz0', hz1', hz2'⟩ := info_parts info56
      have h2 : wr.cell? ⟨b, 2, none⟩ = some (.int .i64 0) := hR.c2
      have HEq := Lib.hid heq
      have HLeft : Hid (leftR b s wr = s.size - q + 1) := leftR_ok hR
      have HRq := Lib.hid hR
      have HO := Lib.hid hO
      have HU := Lib.hid hU
      have HOwn := Lib.hid hown
      have HMem := Lib.hid hmem
      have hzr := hU.lt
      clear hR hO hU hown hmem heq
      go_wp2_with (go_at_call 21; refine (blanks_any b s q 0 0 _ HRq.out hq hs).mono ?_; rintro e w1 ⟨rfl, q1, hq01, hq1, hsk, hR1, hO1⟩; refine Hid.out ?_)
      have h0' := hR1.c0
      have h1' := hR1.c1
      have hf' := hR1.fz 1
      have hb1 := hR1.lt
      have HR1 := Lib.hid hR1
      have HO1 := Lib.hid (HO.out.trans hO1)
      have HU1 := Lib.hid (HU.out.kept hO1 (by intro e; cases e; omega))
      have HOwn1 := Lib.hid (own1_only HOwn.out hO1 (by omega))
      have HMem1 := Lib.hid (HMem.out.only hO1 (by omega))
      have HSk := Lib.hid hsk
      have hz1w := hO1.size
      clear hsk hR1 hO1 HRq HO HU HOwn HMem
      refine Lib.hid ?_
      by_cases hlt : q1 < s.size
      · cases hc41 : ((s[q1].toNat : Int) == 41)
        · have hno : ∀ c r, L s q1 = c :: r → c.toNat ≠ 41 := by
            intro c r e h41
            rw [L_lt s q1 hlt] at e
            have hc : s[q1] = c := by injection e
            have := beq_eq_false_iff_ne.1 hc41
            rw [hc] at this; omega
          have hskq : Px.skip false (L s q1) = L s q1 := by rw [← HSk.out, Px.skip_idem]
          have hrs : Px.rd (f + 1) true (d + 1) (L s q) = Px.rd (f + 1) true (d + 1) (L s q1) := by rw [← Px.rd_skip, HSk.out]
          have HRs := Lib.hid hrs
          clear hrs
          cases hr : Px.rd f false (d + 1) (L s q1) with
          | inl ck =>
            obtain ⟨c, k⟩ := ck
            have hc : c ≠ 0 := Px.rd_code f false (d + 1) (L s q1) c k (by rw [L_len]; simp; omega) hr
            have HT : Hid (Px.rd F true (d + 1) (L s p) = .inl (c, k)) := by
              show _ = _
              rw [HEq.out, HRs.out, Px.rd_true_bad f (d + 1) _ hskq hno (c, k) hr (by omega)]; rfl
            have HDe : Hid (∀ w0, Rr b s q1 0 0 w0 → Calls Tryd.prog 22 #[.pointer (some ⟨b, 0, none⟩), .int .i64 ((d : Int) + 1)] w0 fun e w' => ResR b s (d + 1) (.inl (c, k)) w0 e w') := by
              intro w0 h1
              have := HD.out f (by omega) b s q1 (d + 1) w0 h1 hlt hskq hs (by omega) (by omega)
              rw [hr] at this; exact this
            clear hr hno hskq
            go_wp2
            go_quiet (fail)
            have hRx := HR1.out.drewN nq
            have hOx := HO1.out.drewN nq
            have hUx := HU1.out.kept ((Only.refl b w1).drewN nq) (by intro e; cases e; omega)
            have hOwnx := own1_only HOwn1.out ((Only.refl b w1).drewN nq) (by omega)
            have hMemx := HMem1.out.only ((Only.refl b w1).drewN nq) (by omega)
            have hszx : (w1.drewN nq).heap.size = w1.heap.size := by simp
            clear HR1 HO1 HU1 HOwn1 HMem1 h0' h1' hf'
            generalize w1.drewN nq = wA at hRx hOx hUx hOwnx hMemx hszx ⊢
            have h0' := hRx.c0
            have h1' := hRx.c1
            have hf' := hRx.fz 1
            have hb1' : b < wA.heap.size := by omega
            have hz1w' : wr.heap.size ≤ wA.heap.size := by omega
            clear hb1 hz1w hszx
            have hb1 := hb1'
            have hz1w := hz1w'
            clear hb1' hz1w'
            have HR1 := Lib.hid hRx
            have HO1 := Lib.hid hOx
            have HU1 := Lib.hid hUx
            have HOwn1 := Lib.hid hOwnx
            have HMem1 := Lib.hid hMemx
            clear hRx hOx hUx hOwnx hMemx
            go_wp2
            go_quiet (fail)
            have hRx := HR1.out.drewN nq
            have hOx := HO1.out.drewN nq
            have hUx := HU1.out.kept ((Only.refl b wA).drewN nq) (by intro e; cases e; omega)
            have hOwnx := own1_only HOwn1.out ((Only.refl b wA).drewN nq) (by omega)
            have hMemx := HMem1.out.only ((Only.refl b wA).drewN nq) (by omega)
            have hszx : (wA.drewN nq).heap.size = wA.heap.size := by simp
            clear HR1 HO1 HU1 HOwn1 HMem1 h0' h1' hf'
            generalize wA.drewN nq = wB at hRx hOx hUx hOwnx hMemx hszx ⊢
            have h0' := hRx.c0
            have h1' := hRx.c1
            have hf' := hRx.fz 1
            have hb1' : b < wB.heap.size := by omega
            have hz1w' : wr.heap.size ≤ wB.heap.size := by omega
            clear hb1 hz1w hszx
            have hb1 := hb1'
            have hz1w := hz1w'
            clear hb1' hz1w'
            have HR1 := Lib.hid hRx
            have HO1 := Lib.hid hOx
            have HU1 := Lib.hid hUx
            have HOwn1 := Lib.hid hOwnx
            have HMem1 := Lib.hid hMemx
            clear hRx hOx hUx hOwnx hMemx
            go_wp2_with (go_at_call 22; refine (HDe.out _ HR1.out).mono ?_; rintro e w2 ⟨g1, rfl, hg1, hO2, p', hR2⟩; refine Hid.out ?_)
            have hz1 : wB.heap.size ≤ w2.heap.size := hO2.size
            have hU2 := HU1.out.kept hO2 (by intro e; cases e; omega)
            have hown2 := own1_only HOwn1.out hO2 (by omega)
            have HMem2 := Lib.hid (HMem1.out.only hO2 (by omega))
            have HO2 := Lib.hid (HO1.out.trans hO2)
            have c3 := hU2.c3
            have HU2 := Lib.hid hU2
            have HOwn2 := Lib.hid hown2
            have HR2 := Lib.hid hR2
            have hb2 := hR2.lt
            have hg2 := hU2.lt
            clear hO2 hU2 hown2 hR2
            refine Lib.hid ?_
            go_wp2_with (at_builtin; refine wpList_append_lies _ rfl _ _ 52 rfl (w.heap.size + 1) 56 i0 (.pointer none) 1 8 Tryd.underlying52 hi hz0' hz1' hz2' rfl (by decide) _ _ _ rfl (HOwn2.out.alloc _) ⟨w2.heap.size, 0, none⟩ 1 1 [ptrV g1] rfl rfl ?c1 ?c2 (by decide) ?c3 ?c4 ?c5 (w2.heap.size + 1) ?c6 ?_)
            case c1 => exact World.news_of_block (cs := #[ptrV g1]) (heap_alloc_new _ _)
            case c2 => intro u hu; simp at hu; subst hu; rfl
            case c3 => unfold maxLen; omega
            case c4 => omega
            case c5 => simp; omega
            case c6 => simp
            intro g' cap' w4 hown4 hgrow4 hat4 hlt4
            refine Hid.out ?_
            have hUa := HU2.out.kept (World.grownBy_alloc w2 (.cells #[ptrV g1] 56) none) (by simp)
            have hU4 := hUa.kept hgrow4 (by intro e; have := (HOwn2.out.lt _ e.symm).1; omega)
            have k3 := hU4.c3
            have kf := hU4.fz 3
            have hR4 := (HR2.out.alloc (.cells #[ptrV g1] 56)).kept hgrow4 (by intro e; have := (HOwn2.out.lt _ e.symm).1; omega)
            have hO4 := (HO2.out.alloc (.cells #[ptrV g1] 56)).newO hgrow4 (fun k h => by have := (HOwn2.out.lt k h).1; omega)
            have HU4 := Lib.hid hU4
            have HR4 := Lib.hid hR4
            have HO4 := Lib.hid hO4
            have hz4 : w.heap.size < w4.heap.size := hU4.lt
            clear hown4 hgrow4 hat4 hlt4
            clear hUa hU4 hR4 hO4
            refine Lib.hid ?_
            go_wp2
            have hst := ((Only.refl w.heap.size w4).set 3 (Value.slice (some ⟨g', 0, none⟩) (gs.length + 1) cap'))
            refine ⟨.inr ⟨p', c, k, hc, HR4.out.kept hst (by intro e; cases e; omega), HO4.out.new hst (Nat.le_refl _), HT.out⟩, ?_⟩
            rw [leftR_bad (HR4.out.kept hst (by intro e; cases e; omega)) hc, HLeft.out]; omega
          | inr xr =>
            obtain ⟨xs, rr⟩ := xr
            obtain ⟨hsuf, hlen, hone⟩ := Px.rd_short f false (d + 1) (L s q1) xs rr hr
            obtain ⟨t, rfl⟩ := hone rfl
            have HMore : Hid (Px.rd (f + 1) true (d + 1) (L s q) = Px.pre [t] (Px.rd f true (d + 1) (Px.skip false rr))) := HRs.out.trans (Px.rd_true_more f (d + 1) _ hskq hno _ _ hr)
            have HDe : Hid (∀ w0, Rr b s q1 0 0 w0 → Calls Tryd.prog 22 #[.pointer (some ⟨b, 0, none⟩), .int .i64 ((d : Int) + 1)] w0 fun e w' => ResR b s (d + 1) (.inr ([t], rr)) w0 e w') := by
              intro w0 h1
              have := HD.out f (by omega) b s q1 (d + 1) w0 h1 hlt hskq hs (by omega) (by omega)
              rw [hr] at this; exact this
            have HLr := Lib.hid (L_suf s q1 rr hsuf)
            rw [L_len] at hlen
            clear hr hno hskq hsuf hone
            go_wp2
            go_quiet (fail)
            have hRx := HR1.out.drewN nq
            have hOx := HO1.out.drewN nq
            have hUx := HU1.out.kept ((Only.refl b w1).drewN nq) (by intro e; cases e; omega)
            have hOwnx := own1_only HOwn1.out ((Only.refl b w1).drewN nq) (by omega)
            have hMemx := HMem1.out.only ((Only.refl b w1).drewN nq) (by omega)
            have hszx : (w1.drewN nq).heap.size = w1.heap.size := by simp
            clear HR1 HO1 HU1 HOwn1 HMem1 h0' h1' hf'
            generalize w1.drewN nq = wA at hRx hOx hUx hOwnx hMemx hszx ⊢
            have h0' := hRx.c0
            have h1' := hRx.c1
            have hf' := hRx.fz 1
            have hb1' : b < wA.heap.size := by omega
            have hz1w' : wr.heap.size ≤ wA.heap.size := by omega
            clear hb1 hz1w hszx
            have hb1 := hb1'
            have hz1w := hz1w'
            clear hb1' hz1w'
            have HR1 := Lib.hid hRx
            have HO1 := Lib.hid hOx
            have HU1 := Lib.hid hUx
            have HOwn1 := Lib.hid hOwnx
            have HMem1 := Lib.hid hMemx
            clear hRx hOx hUx hOwnx hMemx
            go_wp2
            go_quiet (fail)
            have hRx := HR1.out.drewN nq
            have hOx := HO1.out.drewN nq
            have hUx := HU1.out.kept ((Only.refl b wA).drewN nq) (by intro e; cases e; omega)
            have hOwnx := own1_only HOwn1.out ((Only.refl b wA).drewN nq) (by omega)
            have hMemx := HMem1.out.only ((Only.refl b wA).drewN nq) (by omega)
            have hszx : (wA.drewN nq).heap.size = wA.heap.size := by simp
            clear HR1 HO1 HU1 HOwn1 HMem1 h0' h1' hf'
            generalize wA.drewN nq = wB at hRx hOx hUx hOwnx hMemx hszx ⊢
            have h0' := hRx.c0
            have h1' := hRx.c1
            have hf' := hRx.fz 1
            have hb1' : b < wB.heap.size := by omega
            have hz1w' : wr.heap.size ≤ wB.heap.size := by omega
            clear hb1 hz1w hszx
            have hb1 := hb1'
            have hz1w := hz1w'
            clear hb1' hz1w'
            have HR1 := Lib.hid hRx
            have HO1 := Lib.hid hOx
            have HU1 := Lib.hid hUx
            have HOwn1 := Lib.hid hOwnx
            have HMem1 := Lib.hid hMemx
            clear hRx hOx hUx hOwnx hMemx
            go_wp2_with (go_at_call 22; refine (HDe.out _ HR1.out).mono ?_; rintro e w2 ⟨g1, rfl, hg1, hO2, t', ht, hrep, hR2⟩; refine Hid.out ?_)
            obtain rfl : t' = t := (List.cons.inj ht).1.symm
            clear ht
            rw [show 32 - (d + 1) = 31 - d from by omega] at hrep
            have hz1 : wB.heap.size ≤ w2.heap.size := hO2.size
            have hU2 := HU1.out.kept hO2 (by intro e; cases e; omega)
            have hown2 := own1_only HOwn1.out hO2 (by omega)
            have HMem2 := Lib.hid (HMem1.out.only hO2 (by omega))
            have HO2 := Lib.hid (HO1.out.trans hO2)
            have c3 := hU2.c3
            have HU2 := Lib.hid hU2
            have HOwn2 := Lib.hid hown2
            have HR2 := Lib.hid hR2
            have hb2 := hR2.lt
            have hg2 := hU2.lt
            have HRep := Lib.hid hrep
            clear hrep
            clear hO2 hU2 hown2 hR2
            refine Lib.hid ?_
            go_wp2_with (at_builtin; refine wpList_append_lies _ rfl _ _ 52 rfl (w.heap.size + 1) 56 i0 (.pointer none) 1 8 Tryd.underlying52 hi hz0' hz1' hz2' rfl (by decide) _ _ _ rfl (HOwn2.out.alloc _) ⟨w2.heap.size, 0, none⟩ 1 1 [ptrV g1] rfl rfl ?c1 ?c2 (by decide) ?c3 ?c4 ?c5 (w2.heap.size + 1) ?c6 ?_)
            case c1 => exact World.news_of_block (cs := #[ptrV g1]) (heap_alloc_new _ _)
            case c2 => intro u hu; simp at hu; subst hu; rfl
            case c3 => unfold maxLen; omega
            case c4 => omega
            case c5 => simp; omega
            case c6 => simp
            intro g' cap' w4 hown4 hgrow4 hat4 hlt4
            refine Hid.out ?_
            have hUa := HU2.out.kept (World.grownBy_alloc w2 (.cells #[ptrV g1] 56) none) (by simp)
            have hU4 := hUa.kept hgrow4 (by intro e; have := (HOwn2.out.lt _ e.symm).1; omega)
            have k3 := hU4.c3
            have kf := hU4.fz 3
            have hR4 := (HR2.out.alloc (.cells #[ptrV g1] 56)).kept hgrow4 (by intro e; have := (HOwn2.out.lt _ e.symm).1; omega)
            have hO4 := (HO2.out.alloc (.cells #[ptrV g1] 56)).newO hgrow4 (fun k h => by have := (HOwn2.out.lt k h).1; omega)
            have HU4 := Lib.hid hU4
            have HR4 := Lib.hid hR4
            have HO4 := Lib.hid hO4
            have hz4 : w.heap.size < w4.heap.size := hU4.lt
            have hga := World.grownBy_alloc w2 (.cells #[ptrV g1] 56) none
            have HMem4 := Lib.hid (MemR.grow (sl := .slice (some ⟨g', 0, none⟩) (gs.length + 1) cap') (lo2 := wB.heap.size) (HMem2.out.kept hga (fun g h => by cases h)) hgrow4 hat4 (by simp) rfl (RepR.kept hga (fun g h => by cases h) HRep.out) (by omega) (fun k hk => (HOwn1.out.lt k hk).2))
            have HOwn4 := Lib.hid hown4
            clear hga hown4 hgrow4 hat4 hlt4
            clear hUa hU4 hR4 hO4
            refine Lib.hid ?_
            go_wp2
            have hst := ((Only.refl w.heap.size w4).set 3 (Value.slice (some ⟨g', 0, none⟩) (gs.length + 1) cap'))
            refine ⟨.inl ⟨s.size - rr.length, f, some ⟨g', 0, none⟩, cap', gs ++ [g1], ts ++ [t'], by omega, by omega, HR4.out.kept hst (by intro e; cases e; omega), HO4.out.new hst (Nat.le_refl _), by simpa using HU4.out.set (a' := some ⟨g', 0, none⟩) (len' := gs.length + 1) (cap' := cap'), ?_, ?_, by simp; omega, by omega, by omega, ?_⟩, ?_⟩
            · have := own1_only HOwn4.out hst (by omega)
              simpa using this
            · have := HMem4.out.kept hst (fun g e => by cases e; left; omega)
              simpa using this
            · rw [HEq.out, HMore.out, Px.pre_pre, Px.rd_skip, HLr.out]
            · rw [leftR_ok (HR4.out.kept hst (by intro e; cases e; omega)), HLeft.out]; omega
        · have HT : Hid (Xt.listR (Px.rd F true (d + 1) (L s p)) = .inr ([Px.paren ts], L s (q1 + 1))) := by
            show _ = _
            rw [HEq.out, ← Px.rd_skip, HSk.out, L_lt s q1 hlt, Px.rd_true_close f (d + 1) _ _ (by have := beq_iff_eq.1 hc41; omega)]
            simp [Px.pre, Xt.listR]
          go_wp2
          go_quiet (fail)
          go_wp2
          go_quiet (fail)
          go_wp2
          go_ret
          rw [HT.out]
          exact ResR.list (((Only.refl b w1).drewN _).set 1 _) HO1.out HU1.out HOwn1.out HMem1.out hb (by omega) ((HR1.out.drewN _).set1 (q1 + 1) _ (by omega)) (by rw [L_len]; omega)
      · have HT : Hid (Xt.listR (Px.rd F true (d + 1) (L s p)) = .inl (3, 0)) := by
          show _ = _
          rw [HEq.out, rd_true_nil f (d + 1) _ (by rw [HSk.out, L_end s q1 (by omega)])]; rfl
        go_wp2
        go_quiet (fail)
        go_wp2_with (go_at_call 38; refine (bad_any b s q1 3 s.size _ (HR1.out.drewN _)).mono ?_; rintro e w2 ⟨⟨g, rfl, hg⟩, h3, h4⟩; have H3 := Lib.hid h3; have H4 := Lib.hid h4; have HG9 := Lib.hid hg; clear h3 h4 hg)
        go_ret
        rw [HT.out]
        exact ResR.bad (by have h5 := HG9.out; have h6 := HO1.out.size; simp at h5; omega) ((HO1.out.drewN _).trans H4.out) H3.out (by omega)
    · have h2 := hR.c2
      have hcz : ((c : Int) == 0) = false := by rw [beq_eq_false_iff_ne]; omega
      have HR := Lib.hid hR
      have HO := Lib.hid hO
      have HT : Hid (Xt.listR (Px.rd F true (d + 1) (L s p)) = .inl (c, k)) := by show _ = _; rw [heq]; rfl
      clear hR hO heq
      go_wp2
      go_ret
      rw [HT.out]
      exact ResR.bad (Nat.le_refl _) HO.out HR.out rfl

end Go.Proofs.YtbgmenglfgodbaaDoor
