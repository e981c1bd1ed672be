/-
  OUR OWN. The walk of read.Text.
-/
import Derived.Test.YtbgmenglfgodbaaDoorDatum
namespace Go.Proofs.YtbgmenglfgodbaaDoor
open Go.RowKit

theorem top_end (f : Nat) (l : List UInt8) (h : l = []) : Py.topP (f + 1) l = .inr ([], []) := by subst h; rfl
theorem top_bad (f : Nat) (l : List UInt8) (hk : Px.skip false l = l) (hne : l ≠ []) (e : Nat × Nat) (h : Py.rd f false 0 l = .inl e) : Py.topP (f + 1) l = .inl e := by
  rw [Py.topP, hk]
  cases l with
  | nil => exact absurd rfl hne
  | cons c r => simp only; rw [h]
theorem top_skip (f : Nat) (l : List UInt8) : Py.topP f (Px.skip false l) = Py.topP f l := by
  cases f with
  | zero => rfl
  | succ f => rw [Py.topP, Py.topP, Px.skip_idem]
theorem top_more (f : Nat) (l : List UInt8) (hk : Px.skip false l = l) (hne : l ≠ []) (x : List Dt) (r1 : List UInt8) (h : Py.rd f false 0 l = .inr (x, r1)) : Py.topP (f + 1) l = Py.preP (x.map (fun t => (t, l.length))) (Py.topP f (Px.skip false r1)) := by
  rw [top_skip, Py.topP, hk]
  cases l with
  | nil => exact absurd rfl hne
  | cons c r =>
    simp only; rw [h]; simp only
    rcases Py.topP f r1 with e | ⟨xs, rr⟩ <;> rfl

/-- A form in memory: its datum, and where it begins. -/
def Fe.cells (x : El × Int) : List Value := x.1.cells ++ [.int .i64 x.2]

theorem own_formF {w : World} {lo : Nat} {v : Value} {n : Nat} {xs : List Value} (h : w.ownsRow lo 41 7 v n xs) : ∃ a cap, v = .slice a n cap := by
  rcases h.2 with ⟨h1, h2⟩ | ⟨g, cap, cur, h1, _⟩
  · subst h2; exact ⟨_, _, h1⟩
  · exact ⟨_, _, h1⟩
theorem own_onlyF {w w' : World} {lo b : Nat} {v : Value} {n : Nat} {xs : List Value} (h : w.ownsRow lo 41 7 v n xs) (hO : Only b w w') (hb : b < lo) : w'.ownsRow lo 41 7 v n xs := by
  refine h.kept hO ?_
  cases hv : v.ownBlock with
  | none => exact .inl rfl
  | some k => right; intro e; cases e; have := (h.lt _ hv).1; omega
theorem info41 : (Tryd.prog.info? 41).map (fun i => (i.zero, i.size, i.bytes)) = some (some (.agg #[.int .i64 0, .int .i64 0, .bool false, .string ⟨#[]⟩, .int .i64 0, .slice none 0 0, .int .i64 0]), 7, 80) := by kernel_rfl

theorem Mem.turn' {lo lo' m : Nat} {own : Nat → Prop} {w : World} {es : List El} {ts : List Dt} (h : Mem lo m own w es ts) (hl : lo' ≤ lo) : Mem lo' m NoB w es ts :=
  ⟨h.len, fun i x u h1 h2 => Rep.turn hl (fun _ e => False.elim e) (h.all i x u h1 h2)⟩

/-- What Text answers. -/
def ResT (s : ByteArray) (r : Sum (Nat × Nat) (List (Dt × Nat) × List UInt8)) (w : World) (e : Ending) (w' : World) : Prop :=
  Below w.heap.size w w' ∧
  match r with
  | .inl (c, k) => ∃ N, e = .returned (.tuple #[.slice none 0 0, .pointer (some ⟨N, 0, none⟩)]) ∧ w.heap.size ≤ N ∧ w'.heap[N]? = some (.cells #[.int .i64 (c : Int), .int .i64 ((s.size - k : Nat) : Int)] 31 (0, 0))
  | .inr (ts, _) => ∃ (es : List (El × Int)) (a : Option Addr) (cap : Nat), e = .returned (.tuple #[.slice a es.length cap, .pointer none]) ∧ w'.ownsRow w.heap.size 41 7 (.slice a es.length cap) es.length (es.flatMap Fe.cells) ∧ Mem w.heap.size 32 NoB w' (es.map (·.1)) (ts.map (·.1)) ∧ es.map (·.2) = ts.map (fun t => ((s.size - t.2 : Nat) : Int)) ∧ es.length ≤ s.size

/-- The data so far, and what is still to be read. -/
def TRel (F b : Nat) (s : ByteArray) (w : World) (mv : Value) (wr : World) : Prop :=
  ∃ (q f : Nat) (es : List (El × Int)) (ts : List (Dt × Nat)), q ≤ s.size ∧ Px.skip false (L s q) = L s q ∧ Rd b s q 0 wr ∧ Only b w wr ∧
    wr.ownsRow (b + 1) 41 7 mv es.length (es.flatMap Fe.cells) ∧ Mem (b + 1) 32 (Bl mv) wr (es.map (·.1)) (ts.map (·.1)) ∧ es.map (·.2) = ts.map (fun t => ((s.size - t.2 : Nat) : Int)) ∧ es.length ≤ q ∧ 2 * (s.size - q) + 2 ≤ f ∧
    Py.topP F (L s 0) = Py.preP ts (Py.topP f (L s q))

set_option maxHeartbeats 400000 in
theorem text_long (s : ByteArray) (w : World) (hs : 1200 < s.size) (hmax : s.size ≤ 140737488355328) :
    Calls Tryd.prog 7 #[.string s] w fun e w' => Below w.heap.size w w' ∧ ∃ N, e = .returned (.tuple #[.slice none 0 0, .pointer (some ⟨N, 0, none⟩)]) ∧ w.heap.size ≤ N ∧ w'.heap[N]? = some (.cells #[.int .i64 1, .int .i64 0] 31 (0, 0)) := by
  go_enter Tryd.func7, Tryd.ntmps7
  go_wp2
  go_ret2
  exact ⟨(Below.refl _ _).alloc (Nat.le_refl _) _, w.heap.size, rfl, Nat.le_refl _, heap_alloc_new _ _⟩

set_option maxRecDepth 100000 in
set_option maxHeartbeats 1000000 in
theorem text_any (s : ByteArray) (w : World) (hs : s.size ≤ 1200) (hG : GV w) (hw : 6 ≤ w.heap.size) :
    Calls Tryd.prog 7 #[.string s] w fun e w' => ResT s (Py.topP (2 * s.size + 2) (L s 0)) w e w' := by
  have HG := Lib.hid hG
  clear hG
  have hR : ∀ o : Obj, o = .cells #[.string s, .int .i64 0, .int .i64 0] 59 (0, 0) → Rd w.heap.size s 0 0 (w.alloc o) := fun o ho => by subst ho; exact heap_alloc_new w _
  have HRn := Lib.hid hR
  clear hR
  have h12 : decide (1200 < (s.size : Int)) = false := by simp; omega
  go_enter Tryd.func7, Tryd.ntmps7
  go_wp2_with (go_at_call 14; refine (skip_any w.heap.size s 0 0 _ (HRn.out _ rfl) (by omega) hs).mono ?_; rintro e w1 ⟨rfl, q0, hpq0, hq0, hsk0, hR0, hO0⟩; refine Hid.out ?_)
  have HR0 := Lib.hid hR0
  have HO0 := Lib.hid (((Only.refl w.heap.size w).alloc _).trans hO0)
  have HSK0 := Lib.hid hsk0
  clear hR0 hO0 hsk0
  refine Lib.hid ?_
  go_wp2
  go_loopw [5] (TRel (2 * s.size + 2) w.heap.size s w) (fun _ wr => s.size - posOf w.heap.size wr)
  case atStart => exact ⟨q0, 2 * s.size + 2, [], [], hq0, by rw [← HSK0.out, Px.skip_idem], HR0.out, HO0.out, World.ownsRow_nil _ _ _ _, Mem.nil _ _ _ _, rfl, by simp, by omega, by rw [← HSK0.out, top_skip, Py.preP_nil]⟩
  case round =>
    obtain ⟨q, f, es, ts, hq, hsk, hR, hO, hown, hmem, hpl, hle, hfq, heq⟩ := hrel
    obtain ⟨f, rfl⟩ : ∃ f', f = f' + 1 := ⟨f - 1, by omega⟩
    obtain ⟨i0, hi, hz0', hz1', hz2'⟩ := info_parts info41
    have HRq := Lib.hid hR
    have HO := Lib.hid hO
    have HOwn := Lib.hid hown
    have HMem := Lib.hid hmem
    have HEq := Lib.hid heq
    have HSk := Lib.hid hsk
    have HPl := Lib.hid hpl
    have h1q := hR.c1
    have HPos : Hid (posOf w.heap.size wr = q) := hR.pos
    have hbr : w.heap.size < wr.heap.size := hR.lt
    clear hR hO hmem heq hsk hown hpl
    by_cases hlt : q < s.size
    · have hd : ((q : Int) == (s.size : Int)) = false := by simp; omega
      have hne : L s q ≠ [] := by rw [L_lt s q hlt]; simp
      have HNe := Lib.hid hne
      have HDf := Lib.hid (datum_all f w.heap.size s q 0)
      clear hne
      cases hr : Py.rd f false 0 (L s q) with
      | inl ck =>
        obtain ⟨c, k⟩ := ck
        have HT : Hid (Py.topP (2 * s.size + 2) (L s 0) = .inl (c, k)) := by
          show _ = _
          rw [HEq.out, top_bad f _ HSk.out HNe.out (c, k) hr]; rfl
        have HDe : Hid (∀ w0, Rd w.heap.size s q 0 w0 → GV w0 → Calls Tryd.prog 16 #[.pointer (some ⟨w.heap.size, 0, none⟩)] w0 fun e w' => Res w.heap.size s 0 (.inl (c, k)) w0 e w') := by
          intro w0 h1 h2
          have := HDf.out w0 h1 hq hs (by omega) h2 hw (by omega)
          rw [hr] at this; exact this
        clear hr HDf
        go_wp2_with (first | (go_at_call 15; refine (ended_any w.heap.size s q 0 _ HRq.out).mono ?_; rintro e w' ⟨rfl, n1, rfl⟩) | (go_at_call 16; refine (HDe.out _ (by exact HRq.out.drewN _) (by exact (HG.out.only (HO.out.drewN _) hw (by omega)))).mono ?_; rintro e w1 ⟨hO, N, rfl, hN0, hN, p', hR1⟩; refine Hid.out ?_))
        have hN9 : w.heap.size ≤ N := by simp at hN0; omega
        have HN := Lib.hid hN
        have HO1 := Lib.hid ((HO.out.drewN _).trans hO)
        clear hO hN hN0 hR1
        refine Lib.hid ?_
        go_wp2
        go_ret2
        rw [HT.out]
        exact ⟨(HO1.out.alloc _).below (Nat.le_refl _) (Nat.le_refl _), N, rfl, hN9, by rw [Below.heap_alloc _ _ _ (Array.getElem?_eq_some_iff.1 HN.out).1]; exact HN.out⟩
      | inr xr =>
        obtain ⟨xs, rr⟩ := xr
        obtain ⟨hsuf, hlen, hone⟩ := Py.rd_short f false 0 (L s q) xs rr hr
        obtain ⟨t, rfl⟩ := hone rfl
        have HT := Lib.hid (top_more f _ HSk.out HNe.out _ _ hr)
        have HDe : Hid (∀ w0, Rd w.heap.size s q 0 w0 → GV w0 → Calls Tryd.prog 16 #[.pointer (some ⟨w.heap.size, 0, none⟩)] w0 fun e w' => Res w.heap.size s 0 (.inr ([t], rr)) w0 e w') := by
          intro w0 h1 h2
          have := HDf.out w0 h1 hq hs (by omega) h2 hw (by omega)
          rw [hr] at this; exact this
        have hLr := L_suf s q rr hsuf
        have HLr := Lib.hid hLr
        rw [L_len] at hlen
        clear hr HDf hsuf hLr hone
        go_wp2_with (first | (go_at_call 15; refine (ended_any w.heap.size s q 0 _ HRq.out).mono ?_; rintro e w' ⟨rfl, n1, rfl⟩) | (go_at_call 16; refine (HDe.out _ (by exact HRq.out.drewN _) (by exact (HG.out.only (HO.out.drewN _) hw (by omega)))).mono ?_; rintro e w1 ⟨hO, x, t', ht, rfl, hrep, hrd⟩; refine Hid.out ?_))
        obtain rfl : t' = t := (List.cons.inj ht).1.symm
        clear ht
        have hz1 : wr.heap.size ≤ w1.heap.size := by have := hO.size; simpa using this
        have hOr : Only w.heap.size wr w1 := ((Only.refl w.heap.size wr).drewN n1).trans hO
        have HO1 := Lib.hid (HO.out.trans hOr)
        have HR1 := Lib.hid hrd
        have hown1 := own_onlyF HOwn.out hOr (by omega)
        have HMem1 := Lib.hid (HMem.out.only hOr (by omega))
        have HRep := Lib.hid hrep
        have HOwn1 := Lib.hid hown1
        have HV : Hid (∀ k, u5.ownBlock = some k → k < wr.heap.size) := fun k hk => (HOwn.out.lt k hk).2
        clear hO hOr hrd hrep hown1 HOwn HMem HDe
        obtain ⟨xk, xn, xtr, xtx, xm, xa, xlen, xcap⟩ := x
        refine Lib.hid ?_
        go_wp2_with (at_builtin; refine wpList_append_lies _ rfl _ _ 26 rfl (w.heap.size + 1) 41 i0 (.agg #[.int .i64 0, .int .i64 0, .bool false, .string ⟨#[]⟩, .int .i64 0, .slice none 0 0, .int .i64 0]) 7 80 Tryd.underlying26 hi hz0' hz1' hz2' rfl (by decide) _ _ _ rfl ((HOwn1.out.alloc _).alloc _) ⟨w1.heap.size + 1, 0, none⟩ 1 1 [.int .i64 xk, .int .i64 xn, .bool xtr, .string xtx, .int .i64 xm, .slice xa xlen xcap, .int .i64 q] rfl rfl ?c1 ?c2 (by decide) ?c3 ?c4 ?c5 (w1.heap.size + 1 + 1) ?c6 ?_)
        case c1 => exact World.news_of_block (cs := #[.int .i64 xk, .int .i64 xn, .bool xtr, .string xtx, .int .i64 xm, .slice xa xlen xcap, .int .i64 q]) (new2 _ _ _)
        case c2 => intro u hu; simp at hu; rcases hu with rfl | rfl | rfl | rfl | rfl | rfl | rfl <;> rfl
        case c3 => unfold maxLen; omega
        case c4 => omega
        case c5 => simp; omega
        case c6 => simp
        intro g cap w3 hown3 hgrow3 hat3 hlt3
        refine Hid.out ?_
        have HO3 := Lib.hid (((HO1.out.alloc _).alloc _).newO hgrow3 (fun k h => by have := (HOwn1.out.lt k h).1; omega))
        have HR3 := Lib.hid (((HR1.out.alloc _).alloc _).kept hgrow3 (by intro e; have := (HOwn1.out.lt _ e.symm).1; omega))
        have hga := World.grownBy_alloc w1 (Obj.cells #[Value.int IntKind.i64 xk, Value.int IntKind.i64 xn, Value.bool xtr, Value.string xtx, Value.int IntKind.i64 xm, Value.slice xa xlen xcap] 39) none
        have hgb := World.grownBy_alloc (w1.alloc (Obj.cells #[Value.int IntKind.i64 xk, Value.int IntKind.i64 xn, Value.bool xtr, Value.string xtx, Value.int IntKind.i64 xm, Value.slice xa xlen xcap] 39)) (Obj.cells #[Value.int IntKind.i64 xk, Value.int IntKind.i64 xn, Value.bool xtr, Value.string xtx, Value.int IntKind.i64 xm, Value.slice xa xlen xcap, Value.int IntKind.i64 q] 41) none
        have HMem3 := Lib.hid (Mem.grow (sl := .slice (some ⟨g, 0, none⟩) (es.length + 1) cap) (x := ⟨xk, xn, xtr, xtx, xm, xa, xlen, xcap⟩) (lo2 := wr.heap.size) ((HMem1.out.kept hga (fun g h => by cases h)).kept hgb (fun g h => by cases h)) hgrow3 hat3 (by simp) rfl (Rep.kept hgb (fun g h => by cases h) (Rep.kept hga (fun g h => by cases h) HRep.out)) (by omega) HV.out)
        have HOwn3 := Lib.hid hown3
        have HX4 : Hid (List.flatMap Fe.cells es ++ [Value.int IntKind.i64 xk, Value.int IntKind.i64 xn, Value.bool xtr, Value.string xtx, Value.int IntKind.i64 xm, Value.slice xa xlen xcap, Value.int IntKind.i64 q] = List.flatMap Fe.cells (es ++ [(⟨xk, xn, xtr, xtx, xm, xa, xlen, xcap⟩, (q : Int))])) := by
          show _ = _
          simp [Fe.cells, El.cells]
        clear hown3 hgrow3 hat3 hlt3 hga hgb HOwn1 HMem1 HR1 HO1 HRep HV
        refine Lib.hid ?_
        go_wp2_with (go_at_call 14; refine (skip_any w.heap.size s (s.size - rr.length) 0 _ HR3.out (by omega) hs).mono ?_; rintro e w4 ⟨rfl, q2, hq21, hq22, hsk2, hR4, hO4⟩; refine Hid.out ?_)
        have HO4 := Lib.hid (HO3.out.trans hO4)
        have HR4 := Lib.hid hR4
        have HOwn4 := Lib.hid (own_onlyF HOwn3.out hO4 (by omega))
        have HMem4 := Lib.hid (HMem3.out.only hO4 (by omega))
        have HSk2 := Lib.hid hsk2
        have HPos4 : Hid (posOf w.heap.size w4 = q2) := hR4.pos
        clear hR4 hO4 hsk2
        refine Lib.hid ?_
        go_wp2
        go_roundw
        case rel =>
          refine ⟨q2, f, es ++ [(⟨xk, xn, xtr, xtx, xm, xa, xlen, xcap⟩, (q : Int))], ts ++ [(t', (L s q).length)], hq22, by rw [← HSk2.out, Px.skip_idem], HR4.out, HO4.out, ?_, ?_, ?_, by simp; omega, by omega, ?_⟩
          · rw [← HX4.out]; simpa using HOwn4.out
          · simpa using HMem4.out
          · rw [List.map_append, List.map_append, HPl.out]; simp only [List.map_cons, List.map_nil, L_len]; congr 3; omega
          · rw [HEq.out, HT.out, Py.preP_pre, ← HSk2.out, HLr.out]; rfl
        case measure =>
          have e1 := HPos.out
          have e2 := HPos4.out
          rw [e1, e2]; omega
    · have hd : ((q : Int) == (s.size : Int)) = true := by simp; omega
      have HT : Hid (Py.topP (2 * s.size + 2) (L s 0) = .inr (ts, [])) := by
        show _ = _
        rw [HEq.out, top_end f _ (L_end s q (by omega))]; simp [Py.preP]
      obtain ⟨a, cap, rfl⟩ := own_formF HOwn.out
      go_wp2_with (go_at_call 15; refine (ended_any w.heap.size s q 0 _ HRq.out).mono ?_; rintro e w' ⟨rfl, n1, rfl⟩)
      go_ret2
      rw [HT.out]
      exact ⟨(HO.out.drewN _).below (Nat.le_refl _) (Nat.le_refl _), es, a, cap, rfl, ownsRow_lo (own_onlyF HOwn.out ((Only.refl w.heap.size wr).drewN n1) (by omega)) (Nat.le_succ _), (HMem.out.only ((Only.refl w.heap.size wr).drewN n1) (by omega)).turn' (Nat.le_succ _), HPl.out, by omega⟩

end Go.Proofs.YtbgmenglfgodbaaDoor
