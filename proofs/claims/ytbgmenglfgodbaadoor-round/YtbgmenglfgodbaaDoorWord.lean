/-
  OUR OWN. The walk of reader.word.
-/
import Derived.Test.YtbgmenglfgodbaaDoorNum
namespace Go.Proofs.YtbgmenglfgodbaaDoor
open Go.RowKit

theorem parseUintM_digits (M : Nat) : ∀ (l : List UInt8) (acc : Nat), l.all Px.digB = true → (∃ u, Lib.parseUintM M acc l = .ok u) ∨ Lib.parseUintM M acc l = .range
  | [], acc, _ => .inl ⟨acc, rfl⟩
  | c :: r, acc, h => by
    have h1 : Px.digB c = true ∧ r.all Px.digB = true := by simpa using h
    have hc : 48 ≤ c.toNat ∧ c.toNat ≤ 57 := by simpa [Px.digB] using h1.1
    unfold Lib.parseUintM
    rw [if_pos hc]
    by_cases h2 : 1844674407370955162 ≤ acc
    · rw [if_pos h2]; exact .inr rfl
    · rw [if_neg h2]
      by_cases h3 : M < acc * 10 + (c.toNat - 48)
      · rw [if_pos h3]; exact .inr rfl
      · rw [if_neg h3]; exact parseUintM_digits M r _ h1.2

theorem parse_num (l : List UInt8) (h : Px.numB l = true) : (∃ v, Lib.parseIntB 64 l = .ok v) ∨ Lib.parseIntB 64 l = .range := by
  unfold Px.numB at h
  rw [Bool.and_eq_true] at h
  obtain ⟨h1, h2⟩ := h
  cases l with
  | nil => simp [Px.unsign] at h2
  | cons c r =>
    have hne : (if c.toNat = 43 ∨ c.toNat = 45 then r else c :: r) = Px.unsign (c :: r) := by
      unfold Px.unsign
      by_cases e : c.toNat = 45
      · simp [e]
      · have e3 : ¬ c.toNat = 43 := by
          intro e3
          have : Px.digB c = true ∧ r.all Px.digB = true := by simpa [Px.unsign, e] using h1
          simp [Px.digB, e3] at this
        simp [e, e3]
    have hn : Px.unsign (c :: r) ≠ [] := by intro e; rw [e] at h2; simp at h2
    have hp := parseUintM_digits (2 ^ 64 - 1) _ 0 h1
    have hq : Lib.parseUintB 64 (Px.unsign (c :: r)) = Lib.parseUintM (2 ^ 64 - 1) 0 (Px.unsign (c :: r)) := by unfold Lib.parseUintB; rw [if_neg hn]
    unfold Lib.parseIntB
    simp only [hne, hq]
    rcases hp with ⟨u, hu⟩ | hu
    · rw [hu]
      simp only
      split
      · exact .inr rfl
      · split
        · exact .inr rfl
        · exact .inl ⟨_, rfl⟩
    · rw [hu]; exact .inr rfl

def GV (w : World) : Prop := ∃ tp p, w.var? Tryd.prog "strconv.ErrRange" = some #[.iface tp p]
theorem errRange_no : Tryd.prog.globalNamed "strconv.ErrRange" = some 3 := by kernel_rfl
theorem Only.below {b B : Nat} {w w' : World} (h : Only b w w') (hb : B ≤ b) (hs : B ≤ w.heap.size) : Below B w w' :=
  ⟨h.os, h.tape, h.output, h.size, fun k hk => h.block k (by omega) (by intro e; cases e; omega)⟩
theorem GV.only {b : Nat} {w w' : World} (h : GV w) (hO : Only b w w') (hb : 6 ≤ b) (hs : 6 ≤ w.heap.size) : GV w' := by
  obtain ⟨tp, p, h⟩ := h
  exact ⟨tp, p, var?_below (hO.below hb hs) errRange_no (by omega) h⟩

theorem word_L {s : ByteArray} {p q : Nat} (h : Scan Px.wordB s p q) (hq : ∀ h : q < s.size, Px.wordB s[q] = false) : Py.word (L s p) = Py.wordOf (s.extract p q).data.toList (L s q) := by
  unfold Py.word; rw [(h.fin hq).1, (h.fin hq).2]
theorem wlen {s : ByteArray} {p q : Nat} (h1 : p ≤ q) (h2 : q ≤ s.size) : (s.extract p q).data.toList.length + (L s q).length = s.size - p := by
  rw [ext_data, List.length_take, L_len, L_len]; omega

theorem parseInt_ok (u : ByteArray) (hmax : u.size ≤ 9223372036854775806) (v : Int) (h : Lib.parseIntB 64 u.data.toList = .ok v) (w : World) :
    Calls Tryd.prog 54 #[.string u, .int .i64 10, .int .i64 64] w fun e w' => e = .returned (.tuple #[.int .i64 v, .nilIface]) ∧ Below w.heap.size w w' := by
  refine (Tryd.strconv_ParseInt_10_at64_ok u hmax v h w).mono ?_
  rintro e w1 ⟨rfl, hw1⟩
  refine ⟨rfl, ?_⟩
  rcases hw1 with rfl | ⟨t, rfl⟩
  · exact Below.refl _ _
  · exact Lib.bytesWorld_below _ _ _

set_option maxHeartbeats 1000000 in
theorem word_any (b : Nat) (s : ByteArray) (p d : Nat) (w : World) (h : Rd b s p d w) (hp : p < s.size) (hs : s.size ≤ 1200) (hd30 : d ≤ 30) (hG : GV w) (hb6 : 6 ≤ b) :
    Calls Tryd.prog 32 #[.pointer (some ⟨b, 0, none⟩)] w fun e w' => Res b s d (Py.word (L s p)) w e w' := by
  have h1 := h.c1
  have hf := h.fz 1
  have hb := h.lt
  have HR : Hid (Rd b s p d w) := h
  have HG := Lib.hid hG
  clear h hG
  go_enter Tryd.func32, Tryd.ntmps32
  go_wp2
  go_loopw [] (fun wr => ∃ q, Scan Px.wordB s p q ∧ Rd b s q d wr ∧ Only b w wr ∧ Box w.heap.size wr ∧ w.heap.size < wr.heap.size) (fun wr => s.size - posOf b wr)
  case atStart => exact ⟨p, Scan.refl _ _ _ (by omega), HR.out.alloc _, (Only.refl b w).alloc _, Box.new w _ _ _ _ _ _, by simp⟩
  case round =>
    obtain ⟨q, hS, hR, hO, hX, hz⟩ := hrel
    have h0' := hR.c0
    have h1' := hR.c1
    have hf' := hR.fz 1
    have hq := hS.lim
    have hpq := hS.le
    have HRq := Lib.hid hR
    have HO := Lib.hid hO
    have HX := Lib.hid hX
    have HS := Lib.hid hS
    have HPos : Hid (posOf b wr = q) := hR.pos
    clear hR hO hX hS
    by_cases hlt : q < s.size
    · have hd : ((q : Int) == (s.size : Int)) = false := by simp; omega
      cases hc : Px.wordB s[q]
      · have hmark := hc
        clear hmark
        have hT0 : Py.word (L s p) = Py.wordOf (s.extract p q).data.toList (L s q) := word_L HS.out (fun _ => hc)
        have hwl := wlen (s := s) hpq hq
        go_wp2
        go_quiet ((first | (go_at_call 15; exact Calls.quiet_of (ended_any b s q d _ (HRq.out.drewN _))) | (go_at_call 31; exact Calls.quiet_of_same (isWordByte_any _ _))))
        go_wp2
        go_quiet (fail)
        obtain ⟨u, hu⟩ : ∃ u, u = s.extract p q := ⟨_, rfl⟩
        rw [← hu] at hT0 hwl ⊢
        have hule : u.size ≤ 1200 := by rw [hu]; simp; omega
        have HU := Lib.hid hu
        have HWL := Lib.hid hwl
        have HT0 := Lib.hid hT0
        clear hu hwl hT0
        cases hn : Px.numB u.data.toList
        · by_cases hlen : 24 < u.size
          · have HT : Hid (Py.word (L s p) = .inl (4, s.size - p)) := by
              show _ = _
              rw [HT0.out]; unfold Py.wordOf; rw [hn, if_neg (by simp), if_pos (by simpa using hlen), HWL.out]
            go_wp2_with (first | (go_at_call 53; refine (isNumber_any _ _ (by omega)).mono ?_; rintro e w' ⟨rfl, rfl⟩) | (go_at_call 25; refine (fail_any _ _ _).mono ?_; rintro e w' ⟨N, rfl, hN, hN2, hbl⟩; refine Hid.out ?_))
            have hO2 : Only b w w' := Only.of (HO.out.drewN _) hbl
            have HR9 := Lib.hid ((HRq.out.drewN _).below hbl (by first | omega | (simp; done) | (simp; omega)))
            have hx : Box w.heap.size w' := (HX.out.drewN _).below hbl (by first | omega | (simp; done) | (simp; omega))
            have hsz : w.heap.size + 1 ≤ N := by first | omega | (simp at hN; omega)
            obtain ⟨⟨y0, k0⟩, ⟨y1, k1⟩, ⟨y2, k2⟩, ⟨y3, k3⟩, ⟨y4, k4⟩, ⟨y5, k5⟩, kf⟩ := hx
            have HN2 := Lib.hid hN2
            have HO2 := Lib.hid hO2
            clear hN hN2 hbl hO2
            refine Lib.hid ?_
            go_wp2
            refine bodyPost_ret (v := .tuple #[El.nil.v, .pointer (some ⟨N, 0, none⟩)]) (by simp [results, Tryd.results32, go_sem, *]) rfl ?_
            rw [HT.out]
            exact Res.err HO2.out (Nat.le_refl _) (by omega) (by omega) HN2.out rfl (by omega) HR9.out (by omega) _ _ _ _ _ _
          · have HT : Hid (Py.word (L s p) = Py.closed (.sym u.data.toList 0) (L s q)) := by
              show _ = _
              rw [HT0.out]; unfold Py.wordOf; rw [hn, if_neg (by simp), if_neg (by simpa using hlen)]
            go_wp2_with (first | (go_at_call 53; refine (isNumber_any _ _ (by omega)).mono ?_; rintro e w' ⟨rfl, rfl⟩) | (go_at_call 46; refine (ofSymbol_any _ _).mono ?_; rintro e w1 ⟨rfl, hbl⟩; refine Hid.out ?_))
            have HR1 := Lib.hid ((HRq.out.drewN _).below hbl (by simp; omega))
            have HO1 := Lib.hid (Only.of (HO.out.drewN _) hbl)
            have HX1 := Lib.hid ((HX.out.drewN _).below hbl (by simp; omega))
            have hz1 : w.heap.size + 1 ≤ w1.heap.size := by have := hbl.size; simp at this; omega
            clear hbl
            refine Lib.hid ?_
            by_cases hcl : ∀ hlt : q < s.size, Px.endB s[q] = true
            · have HC : Hid (Py.closed (.sym u.data.toList 0) (L s q) = .inr ([.sym u.data.toList 0], L s q)) := closedL_ok s q _ hcl
              have HCl := Lib.hid hcl
              clear hcl
              go_wp2_with (go_at_call 49; refine (closed_ok b s q d ⟨3, 0, false, u, 0, none, 0, 0⟩ _ HR1.out HCl.out (by omega)).mono ?_; rintro e w9 ⟨rfl, hbl⟩; refine Hid.out ?_)
              have HR2 := Lib.hid (HR1.out.below hbl (by omega))
              have HO2 := Lib.hid (Only.of HO1.out hbl)
              obtain ⟨⟨y0, k0⟩, ⟨y1, k1⟩, ⟨y2, k2⟩, ⟨y3, k3⟩, ⟨y4, k4⟩, ⟨y5, k5⟩, kf⟩ := HX1.out.below hbl (by omega)
              clear hbl
              refine Lib.hid ?_
              go_wp2
              refine bodyPost_ret (v := .tuple #[El.v ⟨3, 0, false, u, 0, none, 0, 0⟩, .pointer none]) (by simp [results, Tryd.results32, go_sem, *]) rfl ?_
              rw [HT.out, HC.out]
              exact Res.ok HO2.out (Nat.le_refl _) (Nat.lt_succ_self _) hb (by rw [show 32 - d = (31 - d) + 1 from by omega]; exact .inr (.inr (.inr (.inl ⟨rfl, rfl⟩)))) HR2.out (by rw [L_len]; omega) _ _ _ _ _ _
            · have hcl' : ∃ hlt : q < s.size, Px.endB s[q] = false := by
                rcases Classical.not_forall.1 hcl with ⟨a, ha⟩
                exact ⟨a, by simpa using ha⟩
              obtain ⟨hl2, he2⟩ := hcl'
              have HC : Hid (Py.closed (.sym u.data.toList 0) (L s q) = .inl (2, s.size - q)) := closedL_bad s q _ hl2 he2
              clear hcl
              go_wp2_with (go_at_call 49; refine (closed_bad b s q d ⟨3, 0, false, u, 0, none, 0, 0⟩ _ HR1.out hl2 he2).mono ?_; rintro e w' ⟨N, rfl, hN, hN2, hbl⟩; refine Hid.out ?_)
              have hO2 : Only b w w' := Only.of (HO1.out) hbl
              have HR9 := Lib.hid ((HR1.out).below hbl (by first | omega | (simp; done) | (simp; omega)))
              have hx : Box w.heap.size w' := (HX1.out).below hbl (by first | omega | (simp; done) | (simp; omega))
              have hsz : w.heap.size + 1 ≤ N := by first | omega | (simp at hN; omega)
              obtain ⟨⟨y0, k0⟩, ⟨y1, k1⟩, ⟨y2, k2⟩, ⟨y3, k3⟩, ⟨y4, k4⟩, ⟨y5, k5⟩, kf⟩ := hx
              have HN2 := Lib.hid hN2
              have HO2 := Lib.hid hO2
              clear hN hN2 hbl hO2
              refine Lib.hid ?_
              go_wp2
              refine bodyPost_ret (v := .tuple #[El.nil.v, .pointer (some ⟨N, 0, none⟩)]) (by simp [results, Tryd.results32, go_sem, *]) rfl ?_
              rw [HT.out, HC.out]
              exact Res.err HO2.out (Nat.le_refl _) (by omega) (by omega) HN2.out rfl (by omega) HR9.out (by omega) _ _ _ _ _ _
        · rcases parse_num _ hn with ⟨v, hv⟩ | hv
          · have HT : Hid (Py.word (L s p) = Py.closed (.num v) (L s q)) := by
              show _ = _
              rw [HT0.out]; unfold Py.wordOf; rw [hn, if_pos rfl, hv]
            have hvb := Lib.parseIntB_bounds hv
            have HVB := Lib.hid hvb
            have HV := Lib.hid hv
            clear hv hvb
            go_wp2_with (first | (go_at_call 53; refine (isNumber_any _ _ (by omega)).mono ?_; rintro e w' ⟨rfl, rfl⟩) | (go_at_call 54; refine (parseInt_ok u (by omega) v HV.out _).mono ?_; rintro e w1 ⟨rfl, hbl⟩; refine Hid.out ?_))
            have HR1 := Lib.hid ((HRq.out.drewN _).below hbl (by simp; omega))
            have HO1 := Lib.hid (Only.of (HO.out.drewN _) hbl)
            have HX1 := Lib.hid ((HX.out.drewN _).below hbl (by simp; omega))
            have hz1 : w.heap.size + 1 ≤ w1.heap.size := by have := hbl.size; simp at this; omega
            clear hbl
            refine Lib.hid ?_
            go_wp2_with (go_at_call 55; refine (ofNumber_any _ _).mono ?_; rintro e w2 ⟨rfl, hbl⟩; refine Hid.out ?_)
            have HR3 := Lib.hid (HR1.out.below hbl (by omega))
            have HO3 := Lib.hid (Only.of HO1.out hbl)
            have HX3 := Lib.hid (HX1.out.below hbl (by omega))
            have hz3 : w.heap.size + 1 ≤ w2.heap.size := by have := hbl.size; omega
            clear hbl
            refine Lib.hid ?_
            by_cases hcl : ∀ hlt : q < s.size, Px.endB s[q] = true
            · have HC : Hid (Py.closed (.num v) (L s q) = .inr ([.num v], L s q)) := closedL_ok s q _ hcl
              have HCl := Lib.hid hcl
              clear hcl
              go_wp2_with (go_at_call 49; refine (closed_ok b s q d ⟨0, v, false, ⟨#[]⟩, 0, none, 0, 0⟩ _ HR3.out HCl.out (by omega)).mono ?_; rintro e w9 ⟨rfl, hbl⟩; refine Hid.out ?_)
              have HR2 := Lib.hid (HR3.out.below hbl (by omega))
              have HO2 := Lib.hid (Only.of HO3.out hbl)
              obtain ⟨⟨y0, k0⟩, ⟨y1, k1⟩, ⟨y2, k2⟩, ⟨y3, k3⟩, ⟨y4, k4⟩, ⟨y5, k5⟩, kf⟩ := HX3.out.below hbl (by omega)
              clear hbl
              refine Lib.hid ?_
              go_wp2
              refine bodyPost_ret (v := .tuple #[El.v ⟨0, v, false, ⟨#[]⟩, 0, none, 0, 0⟩, .pointer none]) (by simp [results, Tryd.results32, go_sem, *]) rfl ?_
              rw [HT.out, HC.out]
              exact Res.ok HO2.out (Nat.le_refl _) (Nat.lt_succ_self _) hb (by rw [show 32 - d = (31 - d) + 1 from by omega]; exact .inl ⟨rfl, rfl, by have := HVB.out.1; show _ ≤ v; simpa using this, by have := HVB.out.2; simp at this; show v ≤ _; omega⟩) HR2.out (by rw [L_len]; omega) _ _ _ _ _ _
            · have hcl' : ∃ hlt : q < s.size, Px.endB s[q] = false := by
                rcases Classical.not_forall.1 hcl with ⟨a, ha⟩
                exact ⟨a, by simpa using ha⟩
              obtain ⟨hl2, he2⟩ := hcl'
              have HC : Hid (Py.closed (.num v) (L s q) = .inl (2, s.size - q)) := closedL_bad s q _ hl2 he2
              clear hcl
              go_wp2_with (go_at_call 49; refine (closed_bad b s q d ⟨0, v, false, ⟨#[]⟩, 0, none, 0, 0⟩ _ HR3.out hl2 he2).mono ?_; rintro e w' ⟨N, rfl, hN, hN2, hbl⟩; refine Hid.out ?_)
              have hO2 : Only b w w' := Only.of (HO3.out) hbl
              have HR9 := Lib.hid ((HR3.out).below hbl (by first | omega | (simp; done) | (simp; omega)))
              have hx : Box w.heap.size w' := (HX3.out).below hbl (by first | omega | (simp; done) | (simp; omega))
              have hsz : w.heap.size + 1 ≤ N := by first | omega | (simp at hN; omega)
              obtain ⟨⟨y0, k0⟩, ⟨y1, k1⟩, ⟨y2, k2⟩, ⟨y3, k3⟩, ⟨y4, k4⟩, ⟨y5, k5⟩, kf⟩ := hx
              have HN2 := Lib.hid hN2
              have HO2 := Lib.hid hO2
              clear hN hN2 hbl hO2
              refine Lib.hid ?_
              go_wp2
              refine bodyPost_ret (v := .tuple #[El.nil.v, .pointer (some ⟨N, 0, none⟩)]) (by simp [results, Tryd.results32, go_sem, *]) rfl ?_
              rw [HT.out, HC.out]
              exact Res.err HO2.out (Nat.le_refl _) (by omega) (by omega) HN2.out rfl (by omega) HR9.out (by omega) _ _ _ _ _ _
          · have HT : Hid (Py.word (L s p) = .inl (4, s.size - p)) := by
              show _ = _
              rw [HT0.out]; unfold Py.wordOf; rw [hn, if_pos rfl, hv, HWL.out]
            obtain ⟨tp, pv, hvar⟩ := (HG.out.only HO.out hb6 (by omega))
            have HV := Lib.hid hv
            have HVar := Lib.hid hvar
            clear hv hvar
            go_wp2_with (first | (go_at_call 53; refine (isNumber_any _ _ (by omega)).mono ?_; rintro e w' ⟨rfl, rfl⟩) | (go_at_call 54; refine (Tryd.strconv_ParseInt_10_at64_range_var u (by omega) HV.out tp pv _ (by exact HVar.out)).mono ?_; rintro e w1 ⟨N1, rfl, hN1, hN12, hbl⟩; refine Hid.out ?_))
            clear hN1 hN12
            have HR1 := Lib.hid ((HRq.out.drewN _).below hbl (by simp; omega))
            have HO1 := Lib.hid (Only.of (HO.out.drewN _) hbl)
            have HX1 := Lib.hid ((HX.out.drewN _).below hbl (by simp; omega))
            have hz1 : w.heap.size + 1 ≤ w1.heap.size := by have := hbl.size; simp at this; omega
            clear hbl
            refine Lib.hid ?_
            go_wp2_with (go_at_call 25; refine (fail_any _ _ _).mono ?_; rintro e w' ⟨N, rfl, hN, hN2, hbl⟩; refine Hid.out ?_)
            have hO2 : Only b w w' := Only.of (HO1.out) hbl
            have HR9 := Lib.hid ((HR1.out).below hbl (by first | omega | (simp; done) | (simp; omega)))
            have hx : Box w.heap.size w' := (HX1.out).below hbl (by first | omega | (simp; done) | (simp; omega))
            have hsz : w.heap.size + 1 ≤ N := by first | omega | (simp at hN; omega)
            obtain ⟨⟨y0, k0⟩, ⟨y1, k1⟩, ⟨y2, k2⟩, ⟨y3, k3⟩, ⟨y4, k4⟩, ⟨y5, k5⟩, kf⟩ := hx
            have HN2 := Lib.hid hN2
            have HO2 := Lib.hid hO2
            clear hN hN2 hbl hO2
            refine Lib.hid ?_
            go_wp2
            refine bodyPost_ret (v := .tuple #[El.nil.v, .pointer (some ⟨N, 0, none⟩)]) (by simp [results, Tryd.results32, go_sem, *]) rfl ?_
            rw [HT.out]
            exact Res.err HO2.out (Nat.le_refl _) (by omega) (by omega) HN2.out rfl (by omega) HR9.out (by omega) _ _ _ _ _ _
      · go_wp2
        go_quiet ((first | (go_at_call 15; exact Calls.quiet_of (ended_any b s q d _ (HRq.out.drewN _))) | (go_at_call 31; exact Calls.quiet_of_same (isWordByte_any _ _))))
        go_wp2
        go_roundw
        case rel => exact ⟨q + 1, HS.out.next hlt hc, (HRq.out.drewN _).set1 _ _ (by omega), (HO.out.drewN _).set _ _, (HX.out.drewN _).set (by omega) _, by simpa using hz⟩
        case measure =>
          have e1 := HPos.out
          have e2 := ((HRq.out.drewN nq).set1 (q + 1) ((q : Int) + 1) (by omega)).pos
          rw [e1, e2]; omega
    · have hd : ((q : Int) == (s.size : Int)) = true := by simp; omega
      have hT0 : Py.word (L s p) = Py.wordOf (s.extract p q).data.toList (L s q) := word_L HS.out (fun h => absurd h hlt)
      have hwl := wlen (s := s) hpq hq
      go_wp2
      go_quiet ((first | (go_at_call 15; exact Calls.quiet_of (ended_any b s q d _ (HRq.out.drewN _))) | (go_at_call 31; exact Calls.quiet_of_same (isWordByte_any _ _))))
      go_wp2
      go_quiet (fail)
      obtain ⟨u, hu⟩ : ∃ u, u = s.extract p q := ⟨_, rfl⟩
      rw [← hu] at hT0 hwl ⊢
      have hule : u.size ≤ 1200 := by rw [hu]; simp; omega
      have HU := Lib.hid hu
      have HWL := Lib.hid hwl
      have HT0 := Lib.hid hT0
      clear hu hwl hT0
      cases hn : Px.numB u.data.toList
      · by_cases hlen : 24 < u.size
        · have HT : Hid (Py.word (L s p) = .inl (4, s.size - p)) := by
            show _ = _
            rw [HT0.out]; unfold Py.wordOf; rw [hn, if_neg (by simp), if_pos (by simpa using hlen), HWL.out]
          go_wp2_with (first | (go_at_call 53; refine (isNumber_any _ _ (by omega)).mono ?_; rintro e w' ⟨rfl, rfl⟩) | (go_at_call 25; refine (fail_any _ _ _).mono ?_; rintro e w' ⟨N, rfl, hN, hN2, hbl⟩; refine Hid.out ?_))
          have hO2 : Only b w w' := Only.of (HO.out.drewN _) hbl
          have HR9 := Lib.hid ((HRq.out.drewN _).below hbl (by first | omega | (simp; done) | (simp; omega)))
          have hx : Box w.heap.size w' := (HX.out.drewN _).below hbl (by first | omega | (simp; done) | (simp; omega))
          have hsz : w.heap.size + 1 ≤ N := by first | omega | (simp at hN; omega)
          obtain ⟨⟨y0, k0⟩, ⟨y1, k1⟩, ⟨y2, k2⟩, ⟨y3, k3⟩, ⟨y4, k4⟩, ⟨y5, k5⟩, kf⟩ := hx
          have HN2 := Lib.hid hN2
          have HO2 := Lib.hid hO2
          clear hN hN2 hbl hO2
          refine Lib.hid ?_
          go_wp2
          refine bodyPost_ret (v := .tuple #[El.nil.v, .pointer (some ⟨N, 0, none⟩)]) (by simp [results, Tryd.results32, go_sem, *]) rfl ?_
          rw [HT.out]
          exact Res.err HO2.out (Nat.le_refl _) (by omega) (by omega) HN2.out rfl (by omega) HR9.out (by omega) _ _ _ _ _ _
        · have HT : Hid (Py.word (L s p) = Py.closed (.sym u.data.toList 0) (L s q)) := by
            show _ = _
            rw [HT0.out]; unfold Py.wordOf; rw [hn, if_neg (by simp), if_neg (by simpa using hlen)]
          go_wp2_with (first | (go_at_call 53; refine (isNumber_any _ _ (by omega)).mono ?_; rintro e w' ⟨rfl, rfl⟩) | (go_at_call 46; refine (ofSymbol_any _ _).mono ?_; rintro e w1 ⟨rfl, hbl⟩; refine Hid.out ?_))
          have HR1 := Lib.hid ((HRq.out.drewN _).below hbl (by simp; omega))
          have HO1 := Lib.hid (Only.of (HO.out.drewN _) hbl)
          have HX1 := Lib.hid ((HX.out.drewN _).below hbl (by simp; omega))
          have hz1 : w.heap.size + 1 ≤ w1.heap.size := by have := hbl.size; simp at this; omega
          clear hbl
          refine Lib.hid ?_
          by_cases hcl : ∀ hlt : q < s.size, Px.endB s[q] = true
          · have HC : Hid (Py.closed (.sym u.data.toList 0) (L s q) = .inr ([.sym u.data.toList 0], L s q)) := closedL_ok s q _ hcl
            have HCl := Lib.hid hcl
            clear hcl
            go_wp2_with (go_at_call 49; refine (closed_ok b s q d ⟨3, 0, false, u, 0, none, 0, 0⟩ _ HR1.out HCl.out (by omega)).mono ?_; rintro e w9 ⟨rfl, hbl⟩; refine Hid.out ?_)
            have HR2 := Lib.hid (HR1.out.below hbl (by omega))
            have HO2 := Lib.hid (Only.of HO1.out hbl)
            obtain ⟨⟨y0, k0⟩, ⟨y1, k1⟩, ⟨y2, k2⟩, ⟨y3, k3⟩, ⟨y4, k4⟩, ⟨y5, k5⟩, kf⟩ := HX1.out.below hbl (by omega)
            clear hbl
            refine Lib.hid ?_
            go_wp2
            refine bodyPost_ret (v := .tuple #[El.v ⟨3, 0, false, u, 0, none, 0, 0⟩, .pointer none]) (by simp [results, Tryd.results32, go_sem, *]) rfl ?_
            rw [HT.out, HC.out]
            exact Res.ok HO2.out (Nat.le_refl _) (Nat.lt_succ_self _) hb (by rw [show 32 - d = (31 - d) + 1 from by omega]; exact .inr (.inr (.inr (.inl ⟨rfl, rfl⟩)))) HR2.out (by rw [L_len]; omega) _ _ _ _ _ _
          · have hcl' : ∃ hlt : q < s.size, Px.endB s[q] = false := by
              rcases Classical.not_forall.1 hcl with ⟨a, ha⟩
              exact ⟨a, by simpa using ha⟩
            obtain ⟨hl2, he2⟩ := hcl'
            exact absurd hl2 hlt
      · rcases parse_num _ hn with ⟨v, hv⟩ | hv
        · have HT : Hid (Py.word (L s p) = Py.closed (.num v) (L s q)) := by
            show _ = _
            rw [HT0.out]; unfold Py.wordOf; rw [hn, if_pos rfl, hv]
          have hvb := Lib.parseIntB_bounds hv
          have HVB := Lib.hid hvb
          have HV := Lib.hid hv
          clear hv hvb
          go_wp2_with (first | (go_at_call 53; refine (isNumber_any _ _ (by omega)).mono ?_; rintro e w' ⟨rfl, rfl⟩) | (go_at_call 54; refine (parseInt_ok u (by omega) v HV.out _).mono ?_; rintro e w1 ⟨rfl, hbl⟩; refine Hid.out ?_))
          have HR1 := Lib.hid ((HRq.out.drewN _).below hbl (by simp; omega))
          have HO1 := Lib.hid (Only.of (HO.out.drewN _) hbl)
          have HX1 := Lib.hid ((HX.out.drewN _).below hbl (by simp; omega))
          have hz1 : w.heap.size + 1 ≤ w1.heap.size := by have := hbl.size; simp at this; omega
          clear hbl
          refine Lib.hid ?_
          go_wp2_with (go_at_call 55; refine (ofNumber_any _ _).mono ?_; rintro e w2 ⟨rfl, hbl⟩; refine Hid.out ?_)
          have HR3 := Lib.hid (HR1.out.below hbl (by omega))
          have HO3 := Lib.hid (Only.of HO1.out hbl)
          have HX3 := Lib.hid (HX1.out.below hbl (by omega))
          have hz3 : w.heap.size + 1 ≤ w2.heap.size := by have := hbl.size; omega
          clear hbl
          refine Lib.hid ?_
          by_cases hcl : ∀ hlt : q < s.size, Px.endB s[q] = true
          · have HC : Hid (Py.closed (.num v) (L s q) = .inr ([.num v], L s q)) := closedL_ok s q _ hcl
            have HCl := Lib.hid hcl
            clear hcl
            go_wp2_with (go_at_call 49; refine (closed_ok b s q d ⟨0, v, false, ⟨#[]⟩, 0, none, 0, 0⟩ _ HR3.out HCl.out (by omega)).mono ?_; rintro e w9 ⟨rfl, hbl⟩; refine Hid.out ?_)
            have HR2 := Lib.hid (HR3.out.below hbl (by omega))
            have HO2 := Lib.hid (Only.of HO3.out hbl)
            obtain ⟨⟨y0, k0⟩, ⟨y1, k1⟩, ⟨y2, k2⟩, ⟨y3, k3⟩, ⟨y4, k4⟩, ⟨y5, k5⟩, kf⟩ := HX3.out.below hbl (by omega)
            clear hbl
            refine Lib.hid ?_
            go_wp2
            refine bodyPost_ret (v := .tuple #[El.v ⟨0, v, false, ⟨#[]⟩, 0, none, 0, 0⟩, .pointer none]) (by simp [results, Tryd.results32, go_sem, *]) rfl ?_
            rw [HT.out, HC.out]
            exact Res.ok HO2.out (Nat.le_refl _) (Nat.lt_succ_self _) hb (by rw [show 32 - d = (31 - d) + 1 from by omega]; exact .inl ⟨rfl, rfl, by have := HVB.out.1; show _ ≤ v; simpa using this, by have := HVB.out.2; simp at this; show v ≤ _; omega⟩) HR2.out (by rw [L_len]; omega) _ _ _ _ _ _
          · have hcl' : ∃ hlt : q < s.size, Px.endB s[q] = false := by
              rcases Classical.not_forall.1 hcl with ⟨a, ha⟩
              exact ⟨a, by simpa using ha⟩
            obtain ⟨hl2, he2⟩ := hcl'
            exact absurd hl2 hlt
        · have HT : Hid (Py.word (L s p) = .inl (4, s.size - p)) := by
            show _ = _
            rw [HT0.out]; unfold Py.wordOf; rw [hn, if_pos rfl, hv, HWL.out]
          obtain ⟨tp, pv, hvar⟩ := (HG.out.only HO.out hb6 (by omega))
          have HV := Lib.hid hv
          have HVar := Lib.hid hvar
          clear hv hvar
          go_wp2_with (first | (go_at_call 53; refine (isNumber_any _ _ (by omega)).mono ?_; rintro e w' ⟨rfl, rfl⟩) | (go_at_call 54; refine (Tryd.strconv_ParseInt_10_at64_range_var u (by omega) HV.out tp pv _ (by exact HVar.out)).mono ?_; rintro e w1 ⟨N1, rfl, hN1, hN12, hbl⟩; refine Hid.out ?_))
          clear hN1 hN12
          have HR1 := Lib.hid ((HRq.out.drewN _).below hbl (by simp; omega))
          have HO1 := Lib.hid (Only.of (HO.out.drewN _) hbl)
          have HX1 := Lib.hid ((HX.out.drewN _).below hbl (by simp; omega))
          have hz1 : w.heap.size + 1 ≤ w1.heap.size := by have := hbl.size; simp at this; omega
          clear hbl
          refine Lib.hid ?_
          go_wp2_with (go_at_call 25; refine (fail_any _ _ _).mono ?_; rintro e w' ⟨N, rfl, hN, hN2, hbl⟩; refine Hid.out ?_)
          have hO2 : Only b w w' := Only.of (HO1.out) hbl
          have HR9 := Lib.hid ((HR1.out).below hbl (by first | omega | (simp; done) | (simp; omega)))
          have hx : Box w.heap.size w' := (HX1.out).below hbl (by first | omega | (simp; done) | (simp; omega))
          have hsz : w.heap.size + 1 ≤ N := by first | omega | (simp at hN; omega)
          obtain ⟨⟨y0, k0⟩, ⟨y1, k1⟩, ⟨y2, k2⟩, ⟨y3, k3⟩, ⟨y4, k4⟩, ⟨y5, k5⟩, kf⟩ := hx
          have HN2 := Lib.hid hN2
          have HO2 := Lib.hid hO2
          clear hN hN2 hbl hO2
          refine Lib.hid ?_
          go_wp2
          refine bodyPost_ret (v := .tuple #[El.nil.v, .pointer (some ⟨N, 0, none⟩)]) (by simp [results, Tryd.results32, go_sem, *]) rfl ?_
          rw [HT.out]
          exact Res.err HO2.out (Nat.le_refl _) (by omega) (by omega) HN2.out rfl (by omega) HR9.out (by omega) _ _ _ _ _ _

end Go.Proofs.YtbgmenglfgodbaaDoor
