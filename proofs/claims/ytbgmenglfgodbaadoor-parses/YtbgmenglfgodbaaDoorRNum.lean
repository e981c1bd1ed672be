/-
  OUR OWN. The document's own numbers: numeric, decimal.
-/
import Derived.Test.YtbgmenglfgodbaaDoorRSmall
import Derived.Test.YtbgmenglfgodbaaDoorNum
import Derived.Test.YtbgmenglfgodbaaDoorWord
namespace Go.Proofs.YtbgmenglfgodbaaDoor
open Go.RowKit

/-- Where the digits begin. -/
def digFrom (t : ByteArray) (h : 0 < t.size) : Nat := if t[0].toNat = 45 then 1 else 0

theorem unsign_drop (t : ByteArray) (h : 0 < t.size) : Px.unsign t.data.toList = L t (digFrom t h) := by
  have e : t.data.toList = L t 0 := rfl
  rw [e, L_lt t 0 h]
  unfold Px.unsign digFrom
  simp only
  by_cases hc : t[0].toNat = 45
  · rw [if_pos hc, if_pos hc]
  · rw [if_neg hc, if_neg hc, L_lt t 0 h]

theorem L_get (t : ByteArray) (f j : Nat) (h : f + j < t.size) : (L t f)[j]? = some t[f + j] := by
  unfold L; rw [List.getElem?_drop, List.getElem?_eq_getElem (by simpa using h)]; rfl

theorem all_L (t : ByteArray) (f k : Nat) (hk : k < t.size) (hf : f ≤ k) : ((L t f).take (k + 1 - f)).all Px.digB = (((L t f).take (k - f)).all Px.digB && Px.digB t[k]) := by
  obtain ⟨j, rfl⟩ : ∃ j, k = f + j := ⟨k - f, by omega⟩
  rw [show f + j + 1 - f = j + 1 from by omega, show f + j - f = j from by omega, List.take_add_one, L_get t f j hk, List.all_append]; simp

theorem all_L_no (t : ByteArray) (f k : Nat) (hk : k < t.size) (hf : f ≤ k) (hd : Px.digB t[k] = false) : (L t f).all Px.digB = false := by
  have h := all_L t f k hk hf
  rw [hd, Bool.and_false] at h
  cases hx : (L t f).all Px.digB with
  | false => rfl
  | true =>
    rw [List.all_eq_true] at hx
    have : ((L t f).take (k + 1 - f)).all Px.digB = true := by rw [List.all_eq_true]; exact fun y hy => hx y (List.mem_of_mem_take hy)
    rw [this] at h; cases h

set_option maxHeartbeats 800000 in
theorem numeric_any (t : ByteArray) (w : World) (ht : t.size ≤ 1200) (h0 : 0 < t.size) :
    Calls Tryd.prog 58 #[.string t] w fun e w' => e = .returned (.bool (Px.numB t.data.toList)) ∧ w' = w := by
  obtain ⟨f, hf⟩ : ∃ f, f = digFrom t h0 := ⟨_, rfl⟩
  have HN : Hid (Px.numB t.data.toList = ((L t f).all Px.digB && !(L t f).isEmpty)) := by
    show _ = _
    unfold Px.numB; rw [unsign_drop t h0, ← hf]
  have hf1 : f ≤ 1 := by rw [hf]; unfold digFrom; split <;> omega
  cases hc : ((t[0].toNat : Int) == 45)
  · have hfv : f = 0 := by
      rw [hf]; unfold digFrom
      rw [if_neg (by have := beq_eq_false_iff_ne.1 hc; omega)]
    clear hf hf1
    subst hfv
    go_enter Tryd.func58, Tryd.ntmps58
    go_wp2
    go_loop [4] (fun i => ∃ k : Nat, 0 ≤ k ∧ k ≤ t.size ∧ i = .int .i64 k ∧ ((L t 0).take (k - 0)).all Px.digB = true) (fun i => t.size - (intOf i).toNat)
    case atStart => exact ⟨0, Nat.le_refl _, Nat.zero_le _, rfl, by simp⟩
    case round =>
      obtain ⟨k, hk0, hk, rfl, hall⟩ := hrel
      have HA := Lib.hid hall
      clear hall
      by_cases hlt : k < t.size
      · cases hd : Px.digB t[k]
        · have HD : Hid (Px.numB t.data.toList = false) := by
            show _ = _
            rw [HN.out, all_L_no t 0 k hlt hk0 hd]; rfl
          have hr : t[k].toNat < 48 ∨ 57 < t[k].toNat := by unfold Px.digB at hd; rw [decide_eq_false_iff_not] at hd; omega
          rcases hr with hr | hr
          all_goals
            go_wp2
            go_ret
            exact ⟨by rw [HD.out]; rfl, rfl⟩
        · have hr : 48 ≤ t[k].toNat ∧ t[k].toNat ≤ 57 := by simpa [Px.digB] using hd
          obtain ⟨hr1, hr2⟩ := hr
          go_wp2
          refine ⟨⟨k + 1, by omega, by omega, by go_num, by rw [all_L t 0 k hlt hk0, HA.out, hd]; rfl⟩, by simp [intOf]; omega⟩
      · have HD : Hid (Px.numB t.data.toList = decide (0 < t.size)) := by
          show _ = _
          have e : (L t 0).take (k - 0) = L t 0 := List.take_of_length_le (by rw [L_len]; omega)
          have h1 := HA.out
          rw [e] at h1
          rw [HN.out, h1]
          have e2 : (L t 0).length = t.size - 0 := L_len t 0
          cases hl : L t 0 with
          | nil => rw [hl] at e2; simp at e2; simp; omega
          | cons c r => rw [hl] at e2; simp at e2; simp; omega
        go_wp2
        go_ret
        exact ⟨by rw [HD.out]; first | rfl | (congr 2; simp; omega), rfl⟩
  · have hfv : f = 1 := by
      rw [hf]; unfold digFrom
      rw [if_pos (by have := beq_iff_eq.1 hc; omega)]
    clear hf hf1
    subst hfv
    go_enter Tryd.func58, Tryd.ntmps58
    go_wp2
    go_loop [4] (fun i => ∃ k : Nat, 1 ≤ k ∧ k ≤ t.size ∧ i = .int .i64 k ∧ ((L t 1).take (k - 1)).all Px.digB = true) (fun i => t.size - (intOf i).toNat)
    case atStart => exact ⟨1, Nat.le_refl _, h0, rfl, by simp⟩
    case round =>
      obtain ⟨k, hk0, hk, rfl, hall⟩ := hrel
      have HA := Lib.hid hall
      clear hall
      by_cases hlt : k < t.size
      · cases hd : Px.digB t[k]
        · have HD : Hid (Px.numB t.data.toList = false) := by
            show _ = _
            rw [HN.out, all_L_no t 1 k hlt hk0 hd]; rfl
          have hr : t[k].toNat < 48 ∨ 57 < t[k].toNat := by unfold Px.digB at hd; rw [decide_eq_false_iff_not] at hd; omega
          rcases hr with hr | hr
          all_goals
            go_wp2
            go_ret
            exact ⟨by rw [HD.out]; rfl, rfl⟩
        · have hr : 48 ≤ t[k].toNat ∧ t[k].toNat ≤ 57 := by simpa [Px.digB] using hd
          obtain ⟨hr1, hr2⟩ := hr
          go_wp2
          refine ⟨⟨k + 1, by omega, by omega, by go_num, by rw [all_L t 1 k hlt hk0, HA.out, hd]; rfl⟩, by simp [intOf]; omega⟩
      · have HD : Hid (Px.numB t.data.toList = decide (1 < t.size)) := by
          show _ = _
          have e : (L t 1).take (k - 1) = L t 1 := List.take_of_length_le (by rw [L_len]; omega)
          have h1 := HA.out
          rw [e] at h1
          rw [HN.out, h1]
          have e2 : (L t 1).length = t.size - 1 := L_len t 1
          cases hl : L t 1 with
          | nil => rw [hl] at e2; simp at e2; simp; omega
          | cons c r => rw [hl] at e2; simp at e2; simp; omega
        go_wp2
        go_ret
        exact ⟨by rw [HD.out]; first | rfl | (congr 2; simp; omega), rfl⟩

end Go.Proofs.YtbgmenglfgodbaaDoor
