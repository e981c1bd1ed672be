/-
  OUR OWN. The walk of the document's own Read.
-/
import Derived.Test.YtbgmenglfgodbaaDoorRDatum
import Derived.Test.YtbgmenglfgodbaaDoorText
namespace Go.Proofs.YtbgmenglfgodbaaDoor
open Go.RowKit

theorem blanks_far (b : Nat) (s : ByteArray) (p E A : Nat) (w : World) (h : Rr b s p E A w) (hp : s.size < p) :
    Calls Tryd.prog 21 #[.pointer (some ⟨b, 0, none⟩)] w fun e w' => e = .returned (.tuple #[]) ∧ ∃ q, Rr b s q E A w' ∧ Only b w w' := by
  go_enter Tryd.func21, Tryd.ntmps21
  go_wp2
  go_loopw [2] (fun cv wr => cv = .bool false ∧ Rr b s p E A wr ∧ Only b w wr) (fun _ _ => 0)
  case atStart => exact ⟨rfl, h, Only.refl _ _⟩
  case round =>
    obtain ⟨rfl, hR, hO⟩ := hrel
    have h0 := hR.c0
    have h1 := hR.c1
    have HR := Lib.hid hR
    have HO := Lib.hid hO
    clear hR hO h
    go_wp2
    go_quiet (fail)
    go_wp2
    go_end0
    exact ⟨rfl, p, HR.out.drewN _, HO.out.drewN _⟩

theorem blanks_bad (b : Nat) (s : ByteArray) (p E A : Nat) (w : World) (h : Rr b s p E A w) (hs : s.size ≤ 1200) :
    Calls Tryd.prog 21 #[.pointer (some ⟨b, 0, none⟩)] w fun e w' => e = .returned (.tuple #[]) ∧ ∃ q, Rr b s q E A w' ∧ Only b w w' := by
  by_cases hp : p ≤ s.size
  · exact (blanks_any b s p E A w h hp hs).mono (fun e w' ⟨h1, q, _, _, _, h2, h3⟩ => ⟨h1, q, h2, h3⟩)
  · exact blanks_far b s p E A w h (by omega)

/-- What Read answers. -/
def ResRead (s : ByteArray) (r : Px.R) (w : World) (e : Ending) (w' : World) : Prop :=
  Below w.heap.size w w' ∧
  match r with
  | .inl (c, k) => e = .returned (.tuple #[.slice none 0 0, .int .i64 (c : Int), .int .i64 ((s.size - k : Nat) : Int)])
  | .inr (ts, _) => ∃ (gs : List Nat) (a : Option Addr) (cap : Nat), e = .returned (.tuple #[.slice a gs.length cap, .int .i64 0, .int .i64 0]) ∧ w'.ownsRow w.heap.size 56 1 (.slice a gs.length cap) gs.length (gs.map ptrV) ∧ MemR w.heap.size 32 NoB w' gs ts ∧ gs.length ≤ s.size

def ReadRel (F b : Nat) (s : ByteArray) (w : World) (mv : Value) (wr : World) : Prop :=
  (∃ (q f : Nat) (gs : List Nat) (ts : List (List UInt8)), q ≤ s.size ∧ Px.skip false (L s q) = L s q ∧ Rr b s q 0 0 wr ∧ Only b w wr ∧
    wr.ownsRow (b + 1) 56 1 mv gs.length (gs.map ptrV) ∧ MemR (b + 1) 32 (Bl mv) wr gs ts ∧ gs.length ≤ q ∧ 2 * (s.size - q) + 2 ≤ f ∧
    Px.top F (L s 0) = Px.pre ts (Px.top f (L s q))) ∨
  (∃ (q c k : Nat), c ≠ 0 ∧ Rr b s q c (s.size - k) wr ∧ Only b w wr ∧ Px.top F (L s 0) = .inl (c, k))

set_option maxHeartbeats 400000 in
theorem read_long (s : ByteArray) (w : World) (hs : 1200 < s.size) (hmax : s.size ≤ 140737488355328) :
    Calls Tryd.prog 12 #[.string s] w fun e w' => e = .returned (.tuple #[.slice none 0 0, .int .i64 1, .int .i64 0]) ∧ w' = w := by
  go_enter Tryd.func12, Tryd.ntmps12
  go_wp2
  go_ret3
  exact ⟨rfl, rfl⟩

set_option maxRecDepth 100000 in
set_option maxHeartbeats 1000000 in
theorem read_any (s : ByteArray) (w : World) (hs : s.size ≤ 1200) :
    Calls Tryd.prog 12 #[.string s] w fun e w' => ResRead s (Px.top (2 * s.size + 2) (L s 0)) w e w' := by
  have hR : ∀ o : Obj, o = .cells #[.string s, .int .i64 0, .int .i64 0, .int .i64 0] 76 (0, 0) → Rr w.heap.size s 0 0 0 (w.alloc o) := fun o ho => by subst ho; exact heap_alloc_new w _
  have HRn := Lib.hid hR
  clear hR
  have h12 : decide (1200 < (s.size : Int)) = false := by simp; omega
  go_enter Tryd.func12, Tryd.ntmps12
  go_wp2_with (go_at_call 21; refine (blanks_any w.heap.size s 0 0 0 _ (HRn.out _ rfl) (by omega) hs).mono ?_; rintro e w1 ⟨rfl, q0, hpq0, hq0, hsk0, hR0, hO0⟩; refine Hid.out ?_)
  have HR0 := Lib.hid hR0
  have HO0 := Lib.hid (((Only.refl w.heap.size w).alloc _).trans hO0)
  have HSK0 := Lib.hid hsk0
  clear hR0 hO0 hsk0
  refine Lib.hid ?_
  go_wp2
  go_loopw [6] (ReadRel (2 * s.size + 2) w.heap.size s w) (fun _ wr => leftR w.heap.size s wr)
  case atStart => exact .inl ⟨q0, 2 * s.size + 2, [], [], hq0, by rw [← HSK0.out, Px.skip_idem], HR0.out, HO0.out, World.ownsRow_nil _ _ _ _, MemR.nil _ _ _ _, by simp, by omega, by rw [← HSK0.out, Xt.top_skip, Px.pre_nil]⟩
  case round =>
    rcases hrel with ⟨q, f, gs, ts, hq, hsk, hR, hO, hown, hmem, hle, hfq, heq⟩ | ⟨q, c, k, hc, hR, hO, heq⟩
    · obtain ⟨f, rfl⟩ : ∃ f', f = f' + 1 := ⟨f - 1, by omega⟩
      obtain ⟨i0, hi, hz0', hz1', hz2'⟩ := info_parts info56
      have h2 : wr.cell? ⟨w.heap.size, 2, none⟩ = some (.int .i64 0) := hR.c2
      have h1 := hR.c1
      have hbr : w.heap.size < wr.heap.size := hR.lt
      have HLeft : Hid (leftR w.heap.size s wr = s.size - q + 1) := leftR_ok hR
      have HRq := Lib.hid hR
      have HO := Lib.hid hO
      have HOwn := Lib.hid hown
      have HMem := Lib.hid hmem
      have HEq := Lib.hid heq
      have HSk := Lib.hid hsk
      clear hR hO hmem heq hsk hown
      by_cases hlt : q < s.size
      · have hd : decide ((q : Int) < (s.size : Int)) = true := by simp; omega
        have hne : L s q ≠ [] := by rw [L_lt s q hlt]; simp
        cases hr : Px.rd f false 0 (L s q) with
        | inl ck =>
          obtain ⟨c, k⟩ := ck
          have hc : c ≠ 0 := Px.rd_code f false 0 (L s q) c k (by rw [L_len]; simp; omega) hr
          have HT : Hid (Px.top (2 * s.size + 2) (L s 0) = .inl (c, k)) := by
            show _ = _
            rw [HEq.out, Xt.top_bad f _ HSk.out hne (c, k) hr]; rfl
          have HDe : Hid (∀ w0, Rr w.heap.size s q 0 0 w0 → Calls Tryd.prog 22 #[.pointer (some ⟨w.heap.size, 0, none⟩), .int .i64 0] w0 fun e w' => ResR w.heap.size s 0 (.inl (c, k)) w0 e w') := by
            intro w0 h1
            have := rdatum_all f w.heap.size s q 0 w0 h1 hlt HSk.out hs (by omega) (by omega)
            rw [hr] at this; exact this
          clear hr hne
          go_wp2_with (go_at_call 22; refine (HDe.out _ HRq.out).mono ?_; rintro e w2 ⟨g1, rfl, hg1, hO2, p', hR2⟩; refine Hid.out ?_)
          have hz1 : wr.heap.size ≤ w2.heap.size := hO2.size
          have hown2 := own1_only HOwn.out hO2 (by omega)
          have HMem2 := Lib.hid (HMem.out.only hO2 (by omega))
          have HO2 := Lib.hid (HO.out.trans hO2)
          have HOwn2 := Lib.hid hown2
          have HR2 := Lib.hid hR2
          have HV : Hid (∀ k, u6.ownBlock = some k → k < wr.heap.size) := fun k hk => (HOwn.out.lt k hk).2
          clear hO2 hown2 hR2 HOwn HMem HO
          refine Lib.hid ?_
          go_wp2_with (at_builtin; refine wpList_append_lies _ rfl _ _ 52 rfl (w.heap.size + 1) 56 i0 (.pointer none) 1 8 Tryd.underlying52 hi hz0' hz1' hz2' rfl (by decide) _ _ _ rfl (HOwn2.out.alloc _) ⟨w2.heap.size, 0, none⟩ 1 1 [ptrV g1] rfl rfl ?c1 ?c2 (by decide) ?c3 ?c4 ?c5 (w2.heap.size + 1) ?c6 ?_)
          case c1 => exact World.news_of_block (cs := #[ptrV g1]) (heap_alloc_new _ _)
          case c2 => intro u hu; simp at hu; subst hu; rfl
          case c3 => unfold maxLen; omega
          case c4 => omega
          case c5 => simp; omega
          case c6 => simp
          intro g' cap' w4 hown4 hgrow4 hat4 hlt4
          refine Hid.out ?_
          have HR4 := Lib.hid ((HR2.out.alloc (.cells #[ptrV g1] 56)).kept hgrow4 (by intro e; have := (HOwn2.out.lt _ e.symm).1; omega))
          have HO4 := Lib.hid ((HO2.out.alloc (.cells #[ptrV g1] 56)).newO hgrow4 (fun k h => by have := (HOwn2.out.lt k h).1; omega))
          clear hown4 hgrow4 hat4 hlt4 HR2 HO2 HMem2 HOwn2
          refine Lib.hid ?_
          go_wp2_with (go_at_call 21; refine (blanks_bad w.heap.size s p' c (s.size - k) _ HR4.out hs).mono ?_; rintro e w5 ⟨rfl, q2, hR5, hO5⟩; refine Hid.out ?_)
          have HO5 := Lib.hid (HO4.out.trans hO5)
          have HR5 := Lib.hid hR5
          clear hR5 hO5
          refine Lib.hid ?_
          go_wp2
          go_roundw
          case rel => exact .inr ⟨q2, c, k, hc, HR5.out, HO5.out, HT.out⟩
          case measure =>
            rw [leftR_bad HR5.out hc, HLeft.out]; omega
        | inr xr =>
          obtain ⟨xs, rr⟩ := xr
          obtain ⟨hsuf, hlen, hone⟩ := Px.rd_short f false 0 (L s q) xs rr hr
          obtain ⟨t, rfl⟩ := hone rfl
          have HT := Lib.hid (Xt.top_more f _ HSk.out hne _ _ hr)
          have HDe : Hid (∀ w0, Rr w.heap.size s q 0 0 w0 → Calls Tryd.prog 22 #[.pointer (some ⟨w.heap.size, 0, none⟩), .int .i64 0] w0 fun e w' => ResR w.heap.size s 0 (.inr ([t], rr)) w0 e w') := by
            intro w0 h1
            have := rdatum_all f w.heap.size s q 0 w0 h1 hlt HSk.out hs (by omega) (by omega)
            rw [hr] at this; exact this
          have HLr := Lib.hid (L_suf s q rr hsuf)
          rw [L_len] at hlen
          clear hr hne hsuf hone
          go_wp2_with (go_at_call 22; refine (HDe.out _ HRq.out).mono ?_; rintro e w2 ⟨g1, rfl, hg1, hO2, t', ht, hrep, hR2⟩; refine Hid.out ?_)
          obtain rfl : t' = t := (List.cons.inj ht).1.symm
          clear ht
          have HRep := Lib.hid hrep
          clear hrep
          have hz1 : wr.heap.size ≤ w2.heap.size := hO2.size
          have hown2 := own1_only HOwn.out hO2 (by omega)
          have HMem2 := Lib.hid (HMem.out.only hO2 (by omega))
          have HO2 := Lib.hid (HO.out.trans hO2)
          have HOwn2 := Lib.hid hown2
          have HR2 := Lib.hid hR2
          have HV : Hid (∀ k, u6.ownBlock = some k → k < wr.heap.size) := fun k hk => (HOwn.out.lt k hk).2
          clear hO2 hown2 hR2 HOwn HMem HO
          refine Lib.hid ?_
          go_wp2_with (at_builtin; refine wpList_append_lies _ rfl _ _ 52 rfl (w.heap.size + 1) 56 i0 (.pointer none) 1 8 Tryd.underlying52 hi hz0' hz1' hz2' rfl (by decide) _ _ _ rfl (HOwn2.out.alloc _) ⟨w2.heap.size, 0, none⟩ 1 1 [ptrV g1] rfl rfl ?c1 ?c2 (by decide) ?c3 ?c4 ?c5 (w2.heap.size + 1) ?c6 ?_)
          case c1 => exact World.news_of_block (cs := #[ptrV g1]) (heap_alloc_new _ _)
          case c2 => intro u hu; simp at hu; subst hu; rfl
          case c3 => unfold maxLen; omega
          case c4 => omega
          case c5 => simp; omega
          case c6 => simp
          intro g' cap' w4 hown4 hgrow4 hat4 hlt4
          refine Hid.out ?_
          have HR4 := Lib.hid ((HR2.out.alloc (.cells #[ptrV g1] 56)).kept hgrow4 (by intro e; have := (HOwn2.out.lt _ e.symm).1; omega))
          have HO4 := Lib.hid ((HO2.out.alloc (.cells #[ptrV g1] 56)).newO hgrow4 (fun k h => by have := (HOwn2.out.lt k h).1; omega))
          have hga := World.grownBy_alloc w2 (.cells #[ptrV g1] 56) none
          have HMem4 := Lib.hid (MemR.grow (sl := .slice (some ⟨g', 0, none⟩) (gs.length + 1) cap') (lo2 := wr.heap.size) (HMem2.out.kept hga (fun g h => by cases h)) hgrow4 hat4 (by simp) rfl (RepR.kept hga (fun g h => by cases h) HRep.out) (by omega) HV.out)
          have HOwn4 := Lib.hid hown4
          clear hga hown4 hgrow4 hat4 hlt4 HR2 HO2 HMem2 HOwn2 HRep
          refine Lib.hid ?_
          go_wp2_with (go_at_call 21; refine (blanks_any w.heap.size s (s.size - rr.length) 0 0 _ HR4.out (by omega) hs).mono ?_; rintro e w5 ⟨rfl, q2, hq21, hq22, hsk2, hR5, hO5⟩; refine Hid.out ?_)
          have HO5 := Lib.hid (HO4.out.trans hO5)
          have HR5 := Lib.hid hR5
          have HOwn5 := Lib.hid (own1_only HOwn4.out hO5 (by omega))
          have HMem5 := Lib.hid (HMem4.out.only hO5 (by omega))
          have HSk2 := Lib.hid hsk2
          clear hR5 hO5 hsk2
          refine Lib.hid ?_
          go_wp2
          go_roundw
          case rel =>
            refine .inl ⟨q2, f, gs ++ [g1], ts ++ [t'], hq22, by rw [← HSk2.out, Px.skip_idem], HR5.out, HO5.out, ?_, HMem5.out, by simp; omega, by omega, ?_⟩
            · simpa using HOwn5.out
            · rw [HEq.out, HT.out, Px.pre_pre, ← HSk2.out, HLr.out]
          case measure =>
            rw [leftR_ok HR5.out, HLeft.out]; omega
      · have hd : decide ((q : Int) < (s.size : Int)) = false := by simp; omega
        have HT : Hid (Px.top (2 * s.size + 2) (L s 0) = .inr (ts, [])) := by
          show _ = _
          rw [HEq.out, Xt.top_end f _ (L_end s q (by omega))]; simp [Px.pre]
        obtain ⟨a, cap, rfl⟩ := own1_form HOwn.out
        go_wp2
        go_ret3
        rw [HT.out]
        exact ⟨HO.out.below (Nat.le_refl _) (Nat.le_refl _), gs, a, cap, rfl, ownsRow_lo HOwn.out (Nat.le_succ _), HMem.out.turn (Nat.le_succ _) (fun _ h => False.elim h), by omega⟩
    · have h2 := hR.c2
      have h3 := hR.c3
      have hcz : ((c : Int) == 0) = false := by rw [beq_eq_false_iff_ne]; omega
      have hcn : ((c : Int) != 0) = true := by rw [bne_iff_ne]; omega
      obtain ⟨pl, hpl⟩ : ∃ pl : Nat, pl = s.size - k := ⟨_, rfl⟩
      rw [← hpl] at h3
      have HPl := Lib.hid hpl
      have HO := Lib.hid hO
      have HT : Hid (Px.top (2 * s.size + 2) (L s 0) = .inl (c, k)) := heq
      clear hR hO heq hpl
      go_wp2
      go_quiet (fail)
      go_wp2
      go_ret3
      rw [HT.out]
      exact ⟨(HO.out.drewN _).below (Nat.le_refl _) (Nat.le_refl _), by rw [HPl.out]; rfl⟩

end Go.Proofs.YtbgmenglfgodbaaDoor
