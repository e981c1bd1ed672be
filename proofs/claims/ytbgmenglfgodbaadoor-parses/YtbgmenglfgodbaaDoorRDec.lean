/-
  OUR OWN. The document's own decimal.
-/
import Derived.Test.YtbgmenglfgodbaaDoorRNum
namespace Go.Proofs.YtbgmenglfgodbaaDoor
open Go.RowKit

def mag (acc : Nat) (l : List UInt8) : Nat := l.foldl (fun a c => a * 10 + (c.toNat - 48)) acc

theorem mag_ge : ∀ (l : List UInt8) (acc : Nat), acc ≤ mag acc l
  | [], acc => Nat.le_refl _
  | c :: r, acc => by
    have := mag_ge r (acc * 10 + (c.toNat - 48))
    show acc ≤ mag (acc * 10 + (c.toNat - 48)) r
    omega

theorem parse_mag : ∀ (l : List UInt8) (acc : Nat), l.all Px.digB = true → acc ≤ 2 ^ 64 - 1 → (mag acc l ≤ 2 ^ 64 - 1 → Lib.parseUintM (2 ^ 64 - 1) acc l = .ok (mag acc l)) ∧ (2 ^ 64 - 1 < mag acc l → Lib.parseUintM (2 ^ 64 - 1) acc l = .range)
  | [], acc, _, ha => ⟨fun _ => rfl, fun h => by have : mag acc [] = acc := rfl; omega⟩
  | c :: r, acc, h, ha => by
    have h1 : Px.digB c = true ∧ r.all Px.digB = true := by simpa using h
    have hc : 48 ≤ c.toNat ∧ c.toNat ≤ 57 := by simpa [Px.digB] using h1.1
    have hm : mag acc (c :: r) = mag (acc * 10 + (c.toNat - 48)) r := rfl
    have hg := mag_ge r (acc * 10 + (c.toNat - 48))
    rw [hm]
    unfold Lib.parseUintM
    rw [if_pos hc]
    by_cases h2 : 1844674407370955162 ≤ acc
    · rw [if_pos h2]; exact ⟨fun h => by omega, fun _ => rfl⟩
    · rw [if_neg h2]
      by_cases h3 : 2 ^ 64 - 1 < acc * 10 + (c.toNat - 48)
      · rw [if_pos h3]; exact ⟨fun h => by omega, fun _ => rfl⟩
      · rw [if_neg h3]; exact parse_mag r _ h1.2 (by omega)

theorem mag_snoc (t : ByteArray) (f k : Nat) (hk : k < t.size) (hf : f ≤ k) : mag 0 ((L t f).take (k + 1 - f)) = mag 0 ((L t f).take (k - f)) * 10 + (t[k].toNat - 48) := by
  obtain ⟨j, rfl⟩ : ∃ j, k = f + j := ⟨k - f, by omega⟩
  rw [show f + j + 1 - f = j + 1 from by omega, show f + j - f = j from by omega, List.take_add_one, L_get t f j hk]
  unfold mag; rw [List.foldl_append]; rfl

theorem mag_take (l : List UInt8) (n : Nat) : mag 0 (l.take n) ≤ mag 0 l := by
  have h : mag 0 l = mag (mag 0 (l.take n)) (l.drop n) := by
    unfold mag; rw [← List.foldl_append, List.take_append_drop]
  rw [h]; exact mag_ge _ _

/-- What strconv makes of a number's form. -/
theorem parse_pos (t : ByteArray) (h0 : 0 < t.size) (hn : Px.numB t.data.toList = true) (hc : t[0].toNat ≠ 45) :
    (mag 0 (L t 0) < 9223372036854775808 → Lib.parseIntB 64 t.data.toList = .ok (mag 0 (L t 0) : Int)) ∧ (9223372036854775808 ≤ mag 0 (L t 0) → Lib.parseIntB 64 t.data.toList = .range) := by
  have hu := unsign_drop t h0
  have hd : digFrom t h0 = 0 := by unfold digFrom; rw [if_neg hc]
  rw [hd] at hu
  unfold Px.numB at hn
  rw [hu, Bool.and_eq_true] at hn
  have hall := hn.1
  have e : t.data.toList = L t 0 := rfl
  rw [e]
  have hl := L_lt t 0 h0
  have h43 : ¬ (t[0].toNat = 43 ∨ t[0].toNat = 45) := by
    intro h
    rcases h with h | h
    · rw [hl] at hall
      have : Px.digB t[0] = true := (show Px.digB t[0] = true ∧ (L t (0 + 1)).all Px.digB = true from by simpa using hall).1
      simp [Px.digB, h] at this
    · exact hc h
  have hp := parse_mag (L t 0) 0 hall (by omega)
  rw [hl] at hp ⊢
  unfold Lib.parseIntB
  simp only
  rw [if_neg h43]
  unfold Lib.parseUintB
  rw [if_neg (by simp)]
  constructor
  · intro hlt
    rw [hp.1 (by omega)]
    simp only
    rw [if_neg (by intro h; have := h.2; omega), if_neg (by intro h; exact hc h.1), if_neg hc]
  · intro hge
    by_cases hbig : 2 ^ 64 - 1 < mag 0 (t[0] :: L t (0 + 1))
    · rw [hp.2 hbig]
    · rw [hp.1 (by omega)]
      simp only
      rw [if_pos ⟨hc, by omega⟩]

theorem parse_neg (t : ByteArray) (h0 : 0 < t.size) (hn : Px.numB t.data.toList = true) (hc : t[0].toNat = 45) :
    (mag 0 (L t 1) ≤ 9223372036854775808 → Lib.parseIntB 64 t.data.toList = .ok (-(mag 0 (L t 1) : Int))) ∧ (9223372036854775808 < mag 0 (L t 1) → Lib.parseIntB 64 t.data.toList = .range) := by
  have hu := unsign_drop t h0
  have hd : digFrom t h0 = 1 := by unfold digFrom; rw [if_pos hc]
  rw [hd] at hu
  unfold Px.numB at hn
  rw [hu, Bool.and_eq_true] at hn
  have hall := hn.1
  have hne : L t 1 ≠ [] := by intro e; have := hn.2; rw [e] at this; simp at this
  have e : t.data.toList = L t 0 := rfl
  rw [e]
  have hl := L_lt t 0 h0
  have hp := parse_mag (L t 1) 0 hall (by omega)
  rw [hl]
  unfold Lib.parseIntB
  simp only
  rw [if_pos (.inr hc)]
  unfold Lib.parseUintB
  rw [if_neg hne]
  constructor
  · intro hlt
    rw [hp.1 (by omega)]
    simp only
    rw [if_neg (by intro h; exact h.1 hc), if_neg (by intro h; have := h.2; omega), if_pos hc]
  · intro hge
    by_cases hbig : 2 ^ 64 - 1 < mag 0 (L t 1)
    · rw [hp.2 hbig]
    · rw [hp.1 (by omega)]
      simp only
      rw [if_neg (by intro h; exact h.1 hc), if_pos ⟨hc, by omega⟩]

def DecN (t : ByteArray) (w : World) (e : Ending) (w' : World) : Prop := ∃ z ok, e = .returned (.tuple #[.int .i64 z, .bool ok]) ∧ w' = w ∧ ((mag 0 (L t 1) ≤ 9223372036854775808 ∧ z = -(mag 0 (L t 1) : Int) ∧ ok = true) ∨ (9223372036854775808 < mag 0 (L t 1) ∧ ok = false))

set_option maxHeartbeats 800000 in
theorem decimal_neg (t : ByteArray) (w : World) (ht : t.size ≤ 1200) (h0 : 0 < t.size) (hn : Px.numB t.data.toList = true) (hc : ((t[0].toNat : Int) == 45) = true) :
    Calls Tryd.prog 59 #[.string t] w fun e w' => DecN t w e w' := by
  have hall : (L t 1).all Px.digB = true := by
    have hu := unsign_drop t h0
    have hd : digFrom t h0 = 1 := by unfold digFrom; rw [if_pos (by have := beq_iff_eq.1 hc; omega)]
    rw [hd] at hu
    unfold Px.numB at hn
    rw [hu, Bool.and_eq_true] at hn
    exact hn.1
  have HAll := Lib.hid hall
  clear hall hn
  go_enter Tryd.func59, Tryd.ntmps59
  go_wp2
  go_loop [4, 5] (fun n i => ∃ (k : Nat) (a : Int), 1 ≤ k ∧ k ≤ t.size ∧ i = .int .i64 k ∧ n = .int .i64 a ∧ a ≤ 0 ∧ -9223372036854775808 ≤ a ∧ Hid (a = -(mag 0 ((L t 1).take (k - 1)) : Int))) (fun _ i => t.size - (intOf i).toNat)
  case atStart => exact ⟨1, 0, Nat.le_refl _, h0, rfl, rfl, by omega, by omega, by show _ = _; simp [mag]⟩
  case round =>
    obtain ⟨k, a, hk0, hk, rfl, rfl, ha0, ha1, HM⟩ := hrel
    by_cases hlt : k < t.size
    · have hd : Px.digB t[k] = true := by
        have h1 := HAll.out
        rw [List.all_eq_true] at h1
        obtain ⟨j, rfl⟩ : ∃ j, k = 1 + j := ⟨k - 1, by omega⟩
        exact h1 _ (List.mem_of_getElem? (L_get t 1 j hlt))
      have hr : 48 ≤ t[k].toNat ∧ t[k].toNat ≤ 57 := by simpa [Px.digB] using hd
      obtain ⟨hr1, hr2⟩ := hr
      have HSn := Lib.hid (mag_snoc t 1 k hlt hk0)
      have HTk := Lib.hid (mag_take (L t 1) (k + 1 - 1))
      clear hd
      by_cases hbig : 10 * a - ((t[k].toNat : Int) - 48) < -9223372036854775808
      · go_wp2
        all_goals go_ret2
        all_goals
          refine ⟨0, false, rfl, rfl, .inr ⟨?_, rfl⟩⟩
          have e1 := HM.out
          have e2 := HSn.out
          have e3 := HTk.out
          omega
      · go_wp2
        all_goals
          refine ⟨⟨k + 1, 10 * a - ((t[k].toNat : Int) - 48), by omega, by omega, by go_num, ?_, by omega, by omega, ?_⟩, by simp [intOf]; omega⟩
          · first | rfl | (congr 1; omega)
          · show _ = _
            have e1 := HM.out
            have e2 := HSn.out
            rw [e2]; omega
    · have HE : Hid (a = -(mag 0 (L t 1) : Int)) := by
        have e1 := HM.out
        rw [List.take_of_length_le (by rw [L_len]; omega)] at e1; exact e1
      go_wp2
      go_ret2
      exact ⟨a, true, rfl, rfl, .inl ⟨by have := HE.out; omega, HE.out, rfl⟩⟩

def DecP (t : ByteArray) (w : World) (e : Ending) (w' : World) : Prop := ∃ z ok, e = .returned (.tuple #[.int .i64 z, .bool ok]) ∧ w' = w ∧ ((mag 0 (L t 0) < 9223372036854775808 ∧ z = (mag 0 (L t 0) : Int) ∧ ok = true) ∨ (9223372036854775808 ≤ mag 0 (L t 0) ∧ ok = false))

set_option maxHeartbeats 800000 in
theorem decimal_pos (t : ByteArray) (w : World) (ht : t.size ≤ 1200) (h0 : 0 < t.size) (hn : Px.numB t.data.toList = true) (hc : ((t[0].toNat : Int) == 45) = false) :
    Calls Tryd.prog 59 #[.string t] w fun e w' => DecP t w e w' := by
  have hall : (L t 0).all Px.digB = true := by
    have hu := unsign_drop t h0
    have hd : digFrom t h0 = 0 := by unfold digFrom; rw [if_neg (by have := beq_eq_false_iff_ne.1 hc; omega)]
    rw [hd] at hu
    unfold Px.numB at hn
    rw [hu, Bool.and_eq_true] at hn
    exact hn.1
  have HAll := Lib.hid hall
  clear hall hn
  go_enter Tryd.func59, Tryd.ntmps59
  go_wp2
  go_loop [4, 5] (fun n i => ∃ (k : Nat) (a : Int), 0 ≤ k ∧ k ≤ t.size ∧ i = .int .i64 k ∧ n = .int .i64 a ∧ a ≤ 0 ∧ -9223372036854775808 ≤ a ∧ Hid (a = -(mag 0 ((L t 0).take (k - 0)) : Int))) (fun _ i => t.size - (intOf i).toNat)
  case atStart => exact ⟨0, 0, Nat.le_refl _, Nat.zero_le _, rfl, rfl, by omega, by omega, by show _ = _; simp [mag]⟩
  case round =>
    obtain ⟨k, a, hk0, hk, rfl, rfl, ha0, ha1, HM⟩ := hrel
    by_cases hlt : k < t.size
    · have hd : Px.digB t[k] = true := by
        have h1 := HAll.out
        rw [List.all_eq_true] at h1
        obtain ⟨j, rfl⟩ : ∃ j, k = 0 + j := ⟨k - 0, by omega⟩
        exact h1 _ (List.mem_of_getElem? (L_get t 0 j hlt))
      have hr : 48 ≤ t[k].toNat ∧ t[k].toNat ≤ 57 := by simpa [Px.digB] using hd
      obtain ⟨hr1, hr2⟩ := hr
      have HSn := Lib.hid (mag_snoc t 0 k hlt hk0)
      have HTk := Lib.hid (mag_take (L t 0) (k + 1 - 0))
      clear hd
      by_cases hbig : 10 * a - ((t[k].toNat : Int) - 48) < -9223372036854775808
      · go_wp2
        all_goals go_ret2
        all_goals
          refine ⟨0, false, rfl, rfl, .inr ⟨?_, rfl⟩⟩
          have e1 := HM.out
          have e2 := HSn.out
          have e3 := HTk.out
          omega
      · go_wp2
        all_goals
          refine ⟨⟨k + 1, 10 * a - ((t[k].toNat : Int) - 48), by omega, by omega, by go_num, ?_, by omega, by omega, ?_⟩, by simp [intOf]; omega⟩
          · first | rfl | (congr 1; omega)
          · show _ = _
            have e1 := HM.out
            have e2 := HSn.out
            rw [e2]; omega
    · have HE : Hid (a = -(mag 0 (L t 0) : Int)) := by
        have e1 := HM.out
        rw [List.take_of_length_le (by rw [L_len]; omega)] at e1; exact e1
      by_cases hm : a = -9223372036854775808
      · have hb : (a != -9223372036854775808) = false := by rw [bne_eq_false_iff_eq]; exact hm
        have HMm := Lib.hid hm
        clear hm
        go_wp2
        all_goals go_ret2
        all_goals exact ⟨_, false, rfl, rfl, .inr ⟨by have := HE.out; have := HMm.out; omega, rfl⟩⟩
      · have hb : (a != -9223372036854775808) = true := by rw [bne_iff_ne]; exact hm
        go_wp2
        all_goals go_ret2
        all_goals exact ⟨-a, true, rfl, rfl, .inl ⟨by have := HE.out; omega, by have := HE.out; omega, rfl⟩⟩

theorem decimal_ok (t : ByteArray) (w : World) (ht : t.size ≤ 1200) (h0 : 0 < t.size) (hn : Px.numB t.data.toList = true) (v : Int) (hv : Lib.parseIntB 64 t.data.toList = .ok v) :
    Calls Tryd.prog 59 #[.string t] w fun e w' => e = .returned (.tuple #[.int .i64 v, .bool true]) ∧ w' = w := by
  cases hc : ((t[0].toNat : Int) == 45)
  · have hp := parse_pos t h0 hn (by have := beq_eq_false_iff_ne.1 hc; omega)
    refine (decimal_pos t w ht h0 hn hc).mono ?_
    rintro e w' ⟨z, ok, rfl, rfl, hq⟩
    rcases hq with ⟨h1, rfl, rfl⟩ | ⟨h1, rfl⟩
    · have := hp.1 h1; rw [hv] at this; cases this; exact ⟨rfl, rfl⟩
    · have := hp.2 h1; rw [hv] at this; cases this
  · have hp := parse_neg t h0 hn (by have := beq_iff_eq.1 hc; omega)
    refine (decimal_neg t w ht h0 hn hc).mono ?_
    rintro e w' ⟨z, ok, rfl, rfl, hq⟩
    rcases hq with ⟨h1, rfl, rfl⟩ | ⟨h1, rfl⟩
    · have := hp.1 h1; rw [hv] at this; cases this; exact ⟨rfl, rfl⟩
    · have := hp.2 h1; rw [hv] at this; cases this

theorem decimal_bad (t : ByteArray) (w : World) (ht : t.size ≤ 1200) (h0 : 0 < t.size) (hn : Px.numB t.data.toList = true) (hv : Lib.parseIntB 64 t.data.toList = .range) :
    Calls Tryd.prog 59 #[.string t] w fun e w' => ∃ z, e = .returned (.tuple #[.int .i64 z, .bool false]) ∧ w' = w := by
  cases hc : ((t[0].toNat : Int) == 45)
  · have hp := parse_pos t h0 hn (by have := beq_eq_false_iff_ne.1 hc; omega)
    refine (decimal_pos t w ht h0 hn hc).mono ?_
    rintro e w' ⟨z, ok, rfl, rfl, hq⟩
    rcases hq with ⟨h1, rfl, rfl⟩ | ⟨h1, rfl⟩
    · have := hp.1 h1; rw [hv] at this; cases this
    · exact ⟨z, rfl, rfl⟩
  · have hp := parse_neg t h0 hn (by have := beq_iff_eq.1 hc; omega)
    refine (decimal_neg t w ht h0 hn hc).mono ?_
    rintro e w' ⟨z, ok, rfl, rfl, hq⟩
    rcases hq with ⟨h1, rfl, rfl⟩ | ⟨h1, rfl⟩
    · have := hp.1 h1; rw [hv] at this; cases this
    · exact ⟨z, rfl, rfl⟩

end Go.Proofs.YtbgmenglfgodbaaDoor
