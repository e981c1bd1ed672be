/-
  OUR OWN. The walk of Parses.
-/
import Derived.Test.YtbgmenglfgodbaaDoorRParse
namespace Go.Proofs.YtbgmenglfgodbaaDoor
open Go.RowKit

theorem rparse_at (s : ByteArray) (w : World) (h : Gl w) (hmax : s.size ≤ 140737488355328) (out : ByteArray) (c pl : Nat) (hp : Px.parse s.data.toList = (out.data.toList, c, pl)) :
    Calls Tryd.prog 6 #[.string s] w fun e w' => e = .returned (.tuple #[.string out, .int .i64 (c : Int), .int .i64 (pl : Int)]) ∧ Below w.heap.size w w' := by
  have := rparse_any s w h.t h.z hmax
  rw [hp] at this; exact this

set_option maxHeartbeats 1000000 in
/-- 'Parses' answers true at every text. -/
theorem parses_any (s : ByteArray) (w : World) (h : Gl w) (hmax : s.size ≤ 140737488355328) :
    Calls Tryd.prog 3 #[.string s] w fun e w' => e = .returned (.bool true) ∧ Below w.heap.size w w' := by
  rcases hr : Px.parse s.data.toList with ⟨o, c, pl⟩
  obtain ⟨out, ho⟩ : ∃ out : ByteArray, out.data.toList = o := ⟨⟨o.toArray⟩, by simp⟩
  subst ho
  have H := Lib.hid h
  have HP := Lib.hid hr
  clear h hr
  go_enter Tryd.func3, Tryd.ntmps3
  go_wp2_with (go_at_call 5; refine (parse_at s _ H.out hmax out c pl HP.out).mono ?_; rintro e w1 ⟨rfl, h1⟩; refine Hid.out ?_)
  have H1 := Lib.hid (H.out.below h1)
  have HB := Lib.hid h1
  clear h1
  refine Lib.hid ?_
  go_wp2_with (go_at_call 6; refine (rparse_at s _ H1.out hmax out c pl HP.out).mono ?_; rintro e w2 ⟨rfl, h1⟩; refine Hid.out ?_)
  have HB2 := Lib.hid (HB.out.trans (h1.mono HB.out.size))
  clear h1
  refine Lib.hid ?_
  go_wp2
  go_ret
  exact ⟨rfl, HB2.out⟩

end Go.Proofs.YtbgmenglfgodbaaDoor
