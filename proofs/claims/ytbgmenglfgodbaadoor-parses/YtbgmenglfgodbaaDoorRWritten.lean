/-
  OUR OWN. The walk of the document's own Written.
-/
import Derived.Test.YtbgmenglfgodbaaDoorRRead
import Derived.Test.YtbgmenglfgodbaaDoorTxt
namespace Go.Proofs.YtbgmenglfgodbaaDoor
open Go.RowKit

/-- A text as a string. -/
def bs (l : List UInt8) : ByteArray := ⟨l.toArray⟩

theorem bs_eq (s : ByteArray) : bs s.data.toList = s := by cases s; rfl
theorem bs_add (x y : List UInt8) (h : x.length + y.length ≤ 9223372036854775807) (w : World) : (Op.stringOp .add (bs x) (bs y)).run Tryd.prog w = .ok (.string (bs (x ++ y))) w := by
  rw [run_string_add_sum w _ _ (by simpa [bs, ByteArray.size] using h)]
  unfold bs
  rw [ByteArray.mk_append_mk]

theorem grown_below {w w' : World} (h : Below w.heap.size w w') : w.grownBy w' none := ⟨h.os, h.tape, h.output, h.size, fun i hi _ => h.block i hi⟩

theorem row1_cells {lo : Nat} {w0 w : World} {a : Option Addr} {len cap : Nat} {gs : List Nat} (hown : w0.ownsRow lo 56 1 (.slice a len cap) len (gs.map ptrV)) (hlen : gs.length = len) (hb : Below w0.heap.size w0 w) (k : Nat) (hk : k < gs.length) :
    ∃ g, a = some ⟨g, 0, none⟩ ∧ w.cell? ⟨g, k, none⟩ = some (ptrV gs[k]) ∧ len ≤ cap ∧ cap ≤ maxLen := by
  rcases hown.2 with ⟨_, hn⟩ | ⟨g, cap', cur, hv, hg, hh, hn, hcap, hsz, htake⟩
  · omega
  · cases hv
    refine ⟨g, rfl, ?_, hn, hcap⟩
    have hw : w.heap[g]? = some (.cells cur 56 (0, 0)) := by rw [hb.block g (Array.getElem?_eq_some_iff.1 hh).1]; exact hh
    rw [cell_of_row w g k cur 56 (0, 0) hw]
    have h1 : (gs.map ptrV)[k]? = some (ptrV gs[k]) := by rw [List.getElem?_map, List.getElem?_eq_getElem hk]; rfl
    rw [← htake, List.getElem?_take, if_pos (by omega)] at h1
    simpa using h1

def WrittenSaid (lo m : Nat) : Prop := ∀ (g : Nat) (t : List UInt8) (w : World), RepR lo NoB w m g t → t.length ≤ 100000 → GT w → 6 ≤ w.heap.size →
  Calls Tryd.prog 13 #[ptrV g] w fun e w' => e = .returned (.string (bs t)) ∧ Below w.heap.size w w'

theorem itoa_any (n : Int) (h0 : -9223372036854775808 ≤ n) (h1 : n ≤ 9223372036854775807) (w : World) (h : GT w) :
    Calls Tryd.prog 23 #[.int .i64 n] w fun e w' => e = .returned (.string (bs (Lib.itoa n))) ∧ Below w.heap.size w w' := by
  refine (Tryd.strconv_Itoa n h0 h1 w h).mono ?_
  rintro e w' ⟨rfl, k, os, rfl⟩
  exact ⟨rfl, Lib.below_grow _ _ (Nat.le_refl _) _ _⟩

theorem Dn.cells {x : Dn} {g : Nat} {w w' : World} (h : w.heap[g]? = some (.cells x.arr 79 (0, 0))) (hb : Below w.heap.size w w') :
    w'.cell? ⟨g, 0, none⟩ = some (.int .u8 x.k) ∧ w'.cell? ⟨g, 1, none⟩ = some (.int .i64 x.n) ∧ w'.cell? ⟨g, 2, none⟩ = some (.string x.S) ∧ w'.cell? ⟨g, 3, none⟩ = some (.slice x.a x.len x.cap) := by
  have hw : w'.heap[g]? = some (.cells x.arr 79 (0, 0)) := by rw [hb.block g (Array.getElem?_eq_some_iff.1 h).1]; exact h
  simp [World.cell?, hw]

set_option maxRecDepth 100000 in
set_option maxHeartbeats 1000000 in
theorem written_all (lo : Nat) : ∀ m, WrittenSaid lo m := by
  intro m
  induction m with
  | zero => intro x t w h; exact False.elim h
  | succ m ih =>
    intro g t w h hl hT hw
    obtain ⟨hlo, _, x, hx, h⟩ := h
    obtain ⟨c0, c1, c2, c3⟩ := Dn.cells hx (Below.refl _ _)
    obtain ⟨xk, xn, xS, xa, xlen, xcap, xm, xat⟩ := x
    have HX := Lib.hid hx
    have HTb := Lib.hid hT
    have IH := Lib.hid ih
    clear hx hT ih
    rcases h with ⟨hk, ht, hn0, hn1⟩ | ⟨hk, ht⟩ | ⟨hk, ht⟩ | ⟨hk, ht⟩ | ⟨hk, gs, ts, ht, hlen, hlen2, hown, hf, hall⟩
    · obtain rfl : xk = 110 := hk
      have HT : Hid (t = Lib.itoa xn) := ht
      have hn0' : -9223372036854775808 ≤ xn := hn0
      have hn1' : xn ≤ 9223372036854775807 := hn1
      have HN := Lib.hid (And.intro hn0' hn1')
      clear ht hn0 hn1 hn0' hn1' hl
      go_enter Tryd.func13, Tryd.ntmps13
      go_wp2_with (go_at_call 23; refine (itoa_any xn HN.out.1 HN.out.2 _ HTb.out).mono ?_; rintro e w1 ⟨rfl, h1⟩; have H1 := Lib.hid h1; clear h1)
      go_ret
      exact ⟨by rw [HT.out]; rfl, H1.out⟩
    · obtain rfl : xk = 98 := hk
      by_cases hn : xn = 1
      · obtain rfl : t = [35, 116] := ht.trans (if_pos hn)
        subst hn
        clear ht hl
        go_enter Tryd.func13, Tryd.ntmps13
        go_wp2
        go_ret
        exact ⟨rfl, Below.refl _ _⟩
      · obtain rfl : t = [35, 102] := ht.trans (if_neg hn)
        have hn' : (xn == 1) = false := by rw [beq_eq_false_iff_ne]; exact hn
        clear ht hl hn
        go_enter Tryd.func13, Tryd.ntmps13
        go_wp2
        go_ret
        exact ⟨rfl, Below.refl _ _⟩
    · obtain rfl : xk = 115 := hk
      have HT : Hid (t = 34 :: (xS.data.toList ++ [34])) := ht
      have hl2 : xS.data.toList.length + 2 ≤ 100000 := by rw [ht] at hl; simp at hl ⊢; omega
      have a1 : ∀ w, (Op.stringOp .add ⟨#[34]⟩ xS).run Tryd.prog w = .ok (.string (bs (34 :: xS.data.toList))) w := fun w => by
        have := bs_add [34] xS.data.toList (by simp at hl2 ⊢; omega) w
        rw [bs_eq] at this; exact this
      have a2 : ∀ w, (Op.stringOp .add (bs (34 :: xS.data.toList)) ⟨#[34]⟩).run Tryd.prog w = .ok (.string (bs (34 :: (xS.data.toList ++ [34])))) w := fun w => by
        exact bs_add (34 :: xS.data.toList) [34] (by simp at hl2 ⊢; omega) w
      clear ht hl
      go_enter Tryd.func13, Tryd.ntmps13
      go_wp2
      go_ret
      exact ⟨by rw [HT.out]; rfl, Below.refl _ _⟩
    · obtain rfl : xk = 121 := hk
      have HT : Hid (t = xS.data.toList) := ht
      clear ht hl
      go_enter Tryd.func13, Tryd.ntmps13
      go_wp2
      go_ret
      exact ⟨by rw [HT.out, bs_eq]; rfl, Below.refl _ _⟩
    · obtain rfl : xk = 108 := hk
      obtain rfl : gs.length = xlen := hlen2
      have hlt0 : g < w.heap.size := (Array.getElem?_eq_some_iff.1 HX.out).1
      have HOwn := Lib.hid hown
      have HAll := Lib.hid hall
      have HT := Lib.hid ht
      have hlj : (Px.join ts).length + 2 ≤ 100000 := by rw [ht] at hl; simpa [Px.paren] using hl
      have hgl : gs.length ≤ 100000 := by have := join_len ts; omega
      clear ht hl hown hf hall
      go_enter Tryd.func13, Tryd.ntmps13
      go_wp2
      go_loopw [3, 4] (fun sv i wr => ∃ k : Nat, k ≤ gs.length ∧ i = .int .i64 k ∧ sv = .string (bs (40 :: Px.join (ts.take k))) ∧ Below w.heap.size w wr) (fun _ i _ => gs.length - (intOf i).toNat)
      case atStart => exact ⟨0, Nat.zero_le _, rfl, rfl, Below.refl _ _⟩
      case round =>
        obtain ⟨k, hk, rfl, rfl, hB⟩ := hrel
        obtain ⟨d0, d1, d2, d3⟩ := Dn.cells HX.out hB
        simp only [] at d3
        clear c0 c1 c2 c3 d0 d1 d2
        have hsz := hB.size
        have HB := Lib.hid hB
        clear hB
        by_cases hlt : k < gs.length
        · have hkt : k < ts.length := by omega
          obtain ⟨g2, rfl, hcell, hlc, hcm⟩ := row1_cells HOwn.out rfl HB.out k hlt
          have hrep := RepR.kept (grown_below HB.out) (fun _ h => by cases h) (HAll.out k gs[k] ts[k] (List.getElem?_eq_getElem hlt) (List.getElem?_eq_getElem hkt))
          have hjt := join_take ts k hkt
          have hjl := join_take_le ts (k + 1) (by omega)
          rw [hjt] at hjl
          obtain ⟨u, hu⟩ : ∃ u, u = ts[k] := ⟨_, rfl⟩
          obtain ⟨g3, hg3⟩ : ∃ g3, g3 = gs[k] := ⟨_, rfl⟩
          rw [← hu] at hrep hjt hjl
          rw [← hg3] at hrep hcell
          have HRep := Lib.hid hrep
          have HJ := Lib.hid hjt
          clear hu hg3 hrep hjt
          unfold maxLen at hcm
          by_cases hk0 : k = 0
          · have hkz : ¬ (0 < k) := by omega
            have a1 : ∀ w, (Op.stringOp .add (bs (40 :: Px.join (ts.take k))) (bs u)).run Tryd.prog w = .ok (.string (bs (40 :: Px.join (ts.take (k + 1))))) w := fun w => by
              rw [HJ.out]
              refine (bs_add (40 :: Px.join (ts.take k)) u (by simp at hjl ⊢; omega) w).trans ?_
              simp [hk0]
            have hul : u.length ≤ 100000 := by simp at hjl; omega
            have HK0 := Lib.hid hk0
            clear hjl hk0
            go_wp2_with (go_at_call 13; refine (IH.out g3 u _ HRep.out hul (HTb.out.below HB.out hw) (by omega)).mono ?_; rintro e w2 ⟨rfl, h1⟩; have H1 := Lib.hid h1; clear h1)
            go_roundw
            case rel => exact ⟨k + 1, by omega, by go_num, rfl, HB.out.trans (H1.out.mono hsz)⟩
            case measure => simp [intOf]; omega
          · have hkp : decide (0 < (k : Int)) = true := by simp; omega
            have a1 : ∀ w, (Op.stringOp .add (bs (40 :: Px.join (ts.take k))) ⟨#[32]⟩).run Tryd.prog w = .ok (.string (bs (40 :: (Px.join (ts.take k) ++ [32])))) w := fun w => by
              exact bs_add (40 :: Px.join (ts.take k)) [32] (by simp at hjl ⊢; omega) w
            have a2 : ∀ w, (Op.stringOp .add (bs (40 :: (Px.join (ts.take k) ++ [32]))) (bs u)).run Tryd.prog w = .ok (.string (bs (40 :: Px.join (ts.take (k + 1))))) w := fun w => by
              rw [HJ.out]
              refine (bs_add (40 :: (Px.join (ts.take k) ++ [32])) u (by simp at hjl ⊢; omega) w).trans ?_
              simp [hk0]
            have hul : u.length ≤ 100000 := by simp at hjl; omega
            clear hjl
            go_wp2_with (go_at_call 13; refine (IH.out g3 u _ HRep.out hul (HTb.out.below HB.out hw) (by omega)).mono ?_; rintro e w2 ⟨rfl, h1⟩; have H1 := Lib.hid h1; clear h1)
            go_roundw
            case rel => exact ⟨k + 1, by omega, by go_num, rfl, HB.out.trans (H1.out.mono hsz)⟩
            case measure => simp [intOf]; omega
        · have hke : k = gs.length := by omega
          have HK : Hid (ts.take k = ts) := List.take_of_length_le (by omega)
          have a1 : ∀ w, (Op.stringOp .add (bs (40 :: Px.join (ts.take k))) ⟨#[41]⟩).run Tryd.prog w = .ok (.string (bs (40 :: (Px.join ts ++ [41])))) w := fun w => by
            rw [HK.out]
            exact bs_add (40 :: Px.join ts) [41] (by simp at hlj ⊢; omega) w
          clear hke
          go_wp2
          go_ret
          exact ⟨by rw [HT.out]; unfold Px.paren; rfl, HB.out⟩

end Go.Proofs.YtbgmenglfgodbaaDoor
