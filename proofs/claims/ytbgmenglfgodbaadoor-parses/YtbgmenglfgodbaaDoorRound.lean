/-
  OUR OWN. The walk of Round.
-/
import Derived.Test.YtbgmenglfgodbaaDoorParse
import Derived.Test.YtbgmenglfgodbaaDoorAgain
namespace Go.Proofs.YtbgmenglfgodbaaDoor
open Go.RowKit

theorem GV.below {B : Nat} {w w' : World} (h : GV w) (hb : Below B w w') (hB : 6 ≤ B) : GV w' := by
  obtain ⟨tp, p, h⟩ := h
  exact ⟨tp, p, var?_below hb errRange_no (by omega) h⟩

/-- What the laid variables give, and room below. -/
structure Gl (w : World) : Prop where
  v : GV w
  t : GT w
  z : 6 ≤ w.heap.size

theorem Gl.below {w w' : World} (h : Gl w) (hb : Below w.heap.size w w') : Gl w' := ⟨h.v.below hb h.z, h.t.below hb h.z, Nat.le_trans h.z hb.size⟩

theorem parse_at (s : ByteArray) (w : World) (h : Gl w) (hmax : s.size ≤ 140737488355328) (out : ByteArray) (c pl : Nat) (hp : Px.parse s.data.toList = (out.data.toList, c, pl)) :
    Calls Tryd.prog 5 #[.string s] w fun e w' => e = .returned (.tuple #[.string out, .int .i64 (c : Int), .int .i64 (pl : Int)]) ∧ Below w.heap.size w w' := by
  have := parse_any s w h.v h.t h.z hmax
  rw [hp] at this; exact this

set_option maxHeartbeats 1000000 in
theorem round_err (s : ByteArray) (w : World) (h : Gl w) (hmax : s.size ≤ 140737488355328) (c pl : Nat) (hp : Px.parse s.data.toList = ([], c, pl)) (hc : c ≠ 0) (hpl : pl ≤ s.size) :
    Calls Tryd.prog 4 #[.string s] w fun e w' => e = .returned (.bool true) ∧ Below w.heap.size w w' := by
  have H := Lib.hid h
  have HP := Lib.hid hp
  have hci : ((c : Int) == 0) = false := by simp; omega
  have hcb : ((c : Int) != 0) = true := by simp; omega
  clear h hp hc
  go_enter Tryd.func4, Tryd.ntmps4
  go_wp2_with (go_at_call 5; refine (parse_at ⟨#[39, 97, 32, 59, 98]⟩ _ H.out (by decide) ⟨#[40, 113, 117, 111, 116, 101, 32, 97, 41, 10]⟩ 0 0 Px.parse_fixed).mono ?_; rintro e w1 ⟨rfl, h1⟩; refine Hid.out ?_)
  have H1 := Lib.hid (H.out.below h1)
  have HB := Lib.hid h1
  clear h1
  refine Lib.hid ?_
  go_wp2_with (go_at_call 5; refine (parse_at s _ H1.out hmax ⟨#[]⟩ c pl HP.out).mono ?_; rintro e w2 ⟨rfl, h1⟩; refine Hid.out ?_)
  have HB2 := Lib.hid (HB.out.trans (h1.mono HB.out.size))
  clear h1
  refine Lib.hid ?_
  go_wp2
  go_ret
  exact ⟨rfl, HB2.out⟩

set_option maxHeartbeats 1000000 in
theorem round_long (s : ByteArray) (w : World) (h : Gl w) (hmax : s.size ≤ 140737488355328) (out : ByteArray) (hp : Px.parse s.data.toList = (out.data.toList, 0, 0)) (ho : 1200 < out.size) :
    Calls Tryd.prog 4 #[.string s] w fun e w' => e = .returned (.bool true) ∧ Below w.heap.size w w' := by
  have H := Lib.hid h
  have HP := Lib.hid hp
  clear h hp
  go_enter Tryd.func4, Tryd.ntmps4
  go_wp2_with (go_at_call 5; refine (parse_at ⟨#[39, 97, 32, 59, 98]⟩ _ H.out (by decide) ⟨#[40, 113, 117, 111, 116, 101, 32, 97, 41, 10]⟩ 0 0 Px.parse_fixed).mono ?_; rintro e w1 ⟨rfl, h1⟩; refine Hid.out ?_)
  have H1 := Lib.hid (H.out.below h1)
  have HB := Lib.hid h1
  clear h1
  refine Lib.hid ?_
  go_wp2_with (go_at_call 5; refine (parse_at s _ H1.out hmax out 0 0 HP.out).mono ?_; rintro e w2 ⟨rfl, h1⟩; refine Hid.out ?_)
  have HB2 := Lib.hid (HB.out.trans (h1.mono HB.out.size))
  clear h1
  refine Lib.hid ?_
  go_wp2
  go_ret
  exact ⟨rfl, HB2.out⟩

set_option maxHeartbeats 1000000 in
theorem round_short (s : ByteArray) (w : World) (h : Gl w) (hmax : s.size ≤ 140737488355328) (out : ByteArray) (hp : Px.parse s.data.toList = (out.data.toList, 0, 0)) (ho : out.size ≤ 1200) (hp2 : Px.parse out.data.toList = (out.data.toList, 0, 0)) :
    Calls Tryd.prog 4 #[.string s] w fun e w' => e = .returned (.bool true) ∧ Below w.heap.size w w' := by
  have H := Lib.hid h
  have HP := Lib.hid hp
  have HP2 := Lib.hid hp2
  clear h hp hp2
  go_enter Tryd.func4, Tryd.ntmps4
  go_wp2_with (go_at_call 5; refine (parse_at ⟨#[39, 97, 32, 59, 98]⟩ _ H.out (by decide) ⟨#[40, 113, 117, 111, 116, 101, 32, 97, 41, 10]⟩ 0 0 Px.parse_fixed).mono ?_; rintro e w1 ⟨rfl, h1⟩; refine Hid.out ?_)
  have H1 := Lib.hid (H.out.below h1)
  have HB := Lib.hid h1
  clear h1
  refine Lib.hid ?_
  go_wp2_with (go_at_call 5; refine (parse_at s _ H1.out hmax out 0 0 HP.out).mono ?_; rintro e w2 ⟨rfl, h1⟩; refine Hid.out ?_)
  have H2 := Lib.hid (H1.out.below h1)
  have HB2 := Lib.hid (HB.out.trans (h1.mono HB.out.size))
  clear h1
  refine Lib.hid ?_
  go_wp2_with (go_at_call 5; refine (parse_at out _ H2.out (by omega) out 0 0 HP2.out).mono ?_; rintro e w3 ⟨rfl, h1⟩; refine Hid.out ?_)
  have HB3 := Lib.hid (HB2.out.trans (h1.mono HB2.out.size))
  clear h1
  refine Lib.hid ?_
  go_wp2
  go_ret
  exact ⟨rfl, HB3.out⟩

/-- 'Round' answers true at every text. -/
theorem round_any (s : ByteArray) (w : World) (h : Gl w) (hmax : s.size ≤ 140737488355328) :
    Calls Tryd.prog 4 #[.string s] w fun e w' => e = .returned (.bool true) ∧ Below w.heap.size w w' := by
  rcases hr : Px.parse s.data.toList with ⟨o, c, pl⟩
  have hc := Px.parse_cases s.data.toList
  rw [hr] at hc
  rcases hc with ⟨h1, h2, h3⟩ | ⟨h1, h2⟩
  · simp only at h1 h2 h3
    subst h1
    exact round_err s w h hmax c pl hr h2 (by simpa using h3)
  · simp only [Prod.mk.injEq] at h1 h2
    obtain ⟨rfl, rfl⟩ := h1
    obtain ⟨out, ho⟩ : ∃ out : ByteArray, out.data.toList = o := ⟨⟨o.toArray⟩, by simp⟩
    subst ho
    by_cases hl : 1200 < out.size
    · exact round_long s w h hmax out hr hl
    · exact round_short s w h hmax out hr (by omega) (h2 (by simp; omega))

end Go.Proofs.YtbgmenglfgodbaaDoor
