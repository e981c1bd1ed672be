/-
  OUR OWN. The walk of the document's own Parse.
-/
import Derived.Test.YtbgmenglfgodbaaDoorRWritten
import Derived.Test.YtbgmenglfgodbaaDoorRound
namespace Go.Proofs.YtbgmenglfgodbaaDoor
open Go.RowKit

theorem ansV_bs (l : List UInt8) (c k : Nat) : ansV (l, c, k) = .tuple #[.string (bs l), .int .i64 (c : Int), .int .i64 (k : Int)] := rfl

/-- Nothing was read: nothing is written. -/
theorem rparse_none (s : ByteArray) (w : World) (c pl : Nat) (hC : Calls Tryd.prog 12 #[.string s] w fun e w' => e = .returned (.tuple #[.slice none 0 0, .int .i64 (c : Int), .int .i64 (pl : Int)]) ∧ Below w.heap.size w w') :
    Calls Tryd.prog 6 #[.string s] w fun e w' => e = .returned (ansV ([], c, pl)) ∧ Below w.heap.size w w' := by
  have HC := Lib.hid hC
  clear hC
  go_enter Tryd.func6, Tryd.ntmps6
  go_wp2_with (go_at_call 12; refine HC.out.mono ?_; rintro e w1 ⟨rfl, h1⟩; have H1 := Lib.hid h1; clear h1)
  go_loopw [8, 9] (fun ov i wr => i = .int .i64 0 ∧ ov = .string ⟨#[]⟩ ∧ wr = w1) (fun _ _ _ => 0)
  case atStart => exact ⟨rfl, rfl, rfl⟩
  case round =>
    obtain ⟨rfl, rfl, rfl⟩ := hrel
    go_wp2
    go_ret3
    exact ⟨rfl, H1.out⟩

set_option maxRecDepth 100000 in
set_option maxHeartbeats 1000000 in
theorem rparse_some (s : ByteArray) (w : World) (hT : GT w) (hw : 6 ≤ w.heap.size) (ts : List (List UInt8)) (hlin : (Px.lines ts).length ≤ 26400)
    (hC : Calls Tryd.prog 12 #[.string s] w fun e w' => Below w.heap.size w w' ∧ ∃ (gs' : List Nat) (a : Option Addr) (cap : Nat), e = .returned (.tuple #[.slice a gs'.length cap, .int .i64 0, .int .i64 0]) ∧ w'.ownsRow w.heap.size 56 1 (.slice a gs'.length cap) gs'.length (gs'.map ptrV) ∧ MemR w.heap.size 32 NoB w' gs' ts ∧ gs'.length ≤ 1200) :
    Calls Tryd.prog 6 #[.string s] w fun e w' => e = .returned (ansV (Px.lines ts, 0, 0)) ∧ Below w.heap.size w w' := by
  have HC := Lib.hid hC
  have HTb := Lib.hid hT
  clear hC hT
  go_enter Tryd.func6, Tryd.ntmps6
  go_wp2_with (go_at_call 12; refine HC.out.mono ?_; rintro e w1 ⟨h1, gs, a, cap, rfl, hown, hmem, hgl⟩; refine Hid.out ?_)
  have hsz1 := h1.size
  have H1 := Lib.hid h1
  have HOwn := Lib.hid hown
  have HMem := Lib.hid hmem
  have HLen := Lib.hid hmem.len
  clear h1 hown hmem HC
  refine Lib.hid ?_
  go_wp2
  go_loopw [8, 9] (fun ov i wr => ∃ k : Nat, k ≤ gs.length ∧ i = .int .i64 k ∧ ov = .string (bs (Px.lines (ts.take k))) ∧ Below w1.heap.size w1 wr) (fun _ i _ => gs.length - (intOf i).toNat)
  case atStart => exact ⟨0, Nat.zero_le _, rfl, rfl, Below.refl _ _⟩
  case round =>
    obtain ⟨k, hk, rfl, rfl, hB⟩ := hrel
    have hsz := hB.size
    have HB := Lib.hid hB
    clear hB
    by_cases hlt : k < gs.length
    · have hkt : k < ts.length := by have := HLen.out; omega
      obtain ⟨g2, rfl, hcell, hlc, hcm⟩ := row1_cells HOwn.out rfl HB.out k hlt
      have hrep := RepR.kept (grown_below HB.out) (fun _ h => by cases h) (HMem.out.all k gs[k] ts[k] (List.getElem?_eq_getElem hlt) (List.getElem?_eq_getElem hkt))
      have hlt1 := lines_take ts k hkt
      have hll := Px.lines_take_le ts (k + 1)
      rw [hlt1] at hll
      obtain ⟨u, hu⟩ : ∃ u, u = ts[k] := ⟨_, rfl⟩
      obtain ⟨g3, hg3⟩ : ∃ g3, g3 = gs[k] := ⟨_, rfl⟩
      rw [← hu] at hrep hlt1 hll
      rw [← hg3] at hrep hcell
      have HRep := Lib.hid hrep
      have HJ := Lib.hid hlt1
      have hll2 : (Px.lines (ts.take k)).length + u.length + 1 ≤ 26400 := by simp at hll; omega
      have a1 : ∀ w, (Op.stringOp .add (bs (Px.lines (ts.take k))) (bs u)).run Tryd.prog w = .ok (.string (bs (Px.lines (ts.take k) ++ u))) w := fun w => bs_add _ _ (by omega) w
      have a2 : ∀ w, (Op.stringOp .add (bs (Px.lines (ts.take k) ++ u)) ⟨#[10]⟩).run Tryd.prog w = .ok (.string (bs (Px.lines (ts.take (k + 1))))) w := fun w => by
        rw [HJ.out, ← List.append_assoc]
        exact bs_add _ [10] (by simp; omega) w
      have hul : u.length ≤ 100000 := by omega
      clear hu hg3 hrep hlt1 hll hll2
      unfold maxLen at hcm
      go_wp2_with (go_at_call 13; refine (written_all w.heap.size 32 g3 u _ HRep.out hul ((HTb.out.below H1.out hw).below HB.out (by omega)) (by omega)).mono ?_; rintro e w2 ⟨rfl, h1⟩; have H2 := Lib.hid h1; clear h1)
      go_roundw
      case rel => exact ⟨k + 1, by omega, by go_num, rfl, HB.out.trans (H2.out.mono hsz)⟩
      case measure => simp [intOf]; omega
    · have hke : k = gs.length := by omega
      have HK : Hid (ts.take k = ts) := List.take_of_length_le (by have := HLen.out; omega)
      clear hke
      go_wp2
      go_ret3
      refine ⟨?_, H1.out.trans (HB.out.mono hsz1)⟩
      rw [HK.out]; rfl

theorem rparse_any (s : ByteArray) (w : World) (hT : GT w) (hw : 6 ≤ w.heap.size) (hmax : s.size ≤ 140737488355328) :
    Calls Tryd.prog 6 #[.string s] w fun e w' => e = .returned (ansV (Px.parse s.data.toList)) ∧ Below w.heap.size w w' := by
  by_cases hs : 1200 < s.size
  · rw [parse_long s hs]
    refine rparse_none s w 1 0 ((read_long s w hs hmax).mono ?_)
    rintro e w' ⟨rfl, rfl⟩
    exact ⟨rfl, Below.refl _ _⟩
  · cases ht : Px.top (2 * s.size + 2) (L s 0) with
    | inl ck =>
      obtain ⟨c, k⟩ := ck
      rw [Xt.parse_err s (by omega) c k ht]
      have hC := read_any s w (by omega)
      rw [ht] at hC
      refine rparse_none s w c (s.size - k) (hC.mono ?_)
      rintro e w' ⟨h1, rfl⟩
      exact ⟨rfl, h1⟩
    | inr xr =>
      obtain ⟨ts, rr⟩ := xr
      rw [Xt.parse_ok s (by omega) ts rr ht]
      have hC := read_any s w (by omega)
      rw [ht] at hC
      have hfit := Px.top_fits _ _ _ _ ht
      rw [L_len] at hfit
      refine rparse_some s w hT hw ts (by omega) (hC.mono ?_)
      rintro e w' ⟨h1, gs, a, cap, rfl, h2, h3, h4⟩
      exact ⟨h1, gs, a, cap, rfl, h2, h3, by omega⟩

end Go.Proofs.YtbgmenglfgodbaaDoor
