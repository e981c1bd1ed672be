/-
  OUR OWN. The walk of isNumber.
-/
import Derived.Test.YtbgmenglfgodbaaDoorStr
namespace Go.Proofs.YtbgmenglfgodbaaDoor
open Go.RowKit

theorem unsign_trim (l : List UInt8) : Lib.trimPrefix l [45] = Px.unsign l := by
  unfold Lib.trimPrefix Lib.hasPrefix Px.unsign
  cases l with
  | nil => simp
  | cons c r =>
    by_cases h : c = 45
    · subst h; simp
    · have h' : ¬ c.toNat = 45 := fun e => h (by rw [← UInt8.toNat_inj]; simpa using e)
      simp [h', Ne.symm h]

theorem unsign_len (l : List UInt8) : (Px.unsign l).length ≤ l.length := by
  cases l with
  | nil => simp [Px.unsign]
  | cons c r =>
    by_cases h : c.toNat = 45
    · simp [Px.unsign, h]
    · simp [Px.unsign, h]

theorem all_take_snoc (u : ByteArray) (k : Nat) (h : k < u.size) : (u.data.toList.take (k + 1)).all Px.digB = ((u.data.toList.take k).all Px.digB && Px.digB u[k]) := by
  rw [List.take_succ_eq_append_getElem (by simpa using h), List.all_append]; simp; rfl
theorem all_take_no (u : ByteArray) (k : Nat) (h : k < u.size) (hd : Px.digB u[k] = false) : u.data.toList.all Px.digB = false := by
  rw [List.all_eq_false]; exact ⟨u[k], by show u.data[k] ∈ _; simp, by simp [hd]⟩

set_option maxHeartbeats 400000 in
theorem isNumber_any (t : ByteArray) (w : World) (ht : t.size ≤ 1200) :
    Calls Tryd.prog 53 #[.string t] w fun e w' => e = .returned (.bool (Px.numB t.data.toList)) ∧ w' = w := by
  go_enter Tryd.func53, Tryd.ntmps53
  go_wp2_with (go_at_call 63; refine (Tryd.strings_TrimPrefix _ _ _).mono ?_; rintro e w' ⟨rfl, rfl⟩; refine Hid.out ?_)
  refine Lib.hid ?_
  obtain ⟨u, hu⟩ : ∃ u : ByteArray, u = ⟨(Lib.trimPrefix t.data.toList [45]).toArray⟩ := ⟨_, rfl⟩
  have hul : u.data.toList = Px.unsign t.data.toList := by rw [hu, ← unsign_trim]
  have hsz : u.size ≤ 1200 := by
    have e1 : u.size = u.data.toList.length := by simp
    have e2 : t.size = t.data.toList.length := by simp
    rw [e1, hul]
    have := unsign_len t.data.toList
    omega
  have HU := Lib.hid hul
  clear hul
  simp only [← hu]
  clear hu
  go_wp2
  go_loop [9] (fun i => ∃ k : Nat, k ≤ u.size ∧ i = .int .i64 k ∧ (u.data.toList.take k).all Px.digB = true) (fun i => u.size - (intOf i).toNat)
  case atStart => exact ⟨0, Nat.zero_le _, rfl, rfl⟩
  case round =>
    obtain ⟨k, hk, rfl, hall⟩ := hrel
    have HA := Lib.hid hall
    clear hall
    by_cases hlt : k < u.size
    · cases hd : Px.digB u[k]
      · go_wp2_with (go_at_call 51; refine (isDigit_any _ _).mono ?_; rintro e w' ⟨rfl, rfl⟩)
        go_ret
        refine ⟨?_, rfl⟩
        unfold Px.numB
        rw [← HU.out, all_take_no u k hlt hd]; rfl
      · go_wp2_with (go_at_call 51; refine (isDigit_any _ _).mono ?_; rintro e w' ⟨rfl, rfl⟩)
        go_round
        case rel => exact ⟨k + 1, by omega, by go_num, by rw [all_take_snoc u k hlt, HA.out, hd]; rfl⟩
        case measure => simp [intOf]; omega
    · go_wp2
      go_ret
      refine ⟨?_, rfl⟩
      have e : (u.data.toList.take k) = u.data.toList := List.take_of_length_le (by simp; omega)
      have := HA.out
      rw [e] at this
      unfold Px.numB
      rw [← HU.out, this]
      show Ending.returned (Value.bool !u.toList.isEmpty) = _
      rw [Lib.toList_data]; rfl

end Go.Proofs.YtbgmenglfgodbaaDoor
