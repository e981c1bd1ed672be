/-
  OUR OWN. The walk of pupil.Parse.
-/
import Derived.Test.YtajndbikegongaaDoorWrite
import Derived.Test.YtajndbikegongaaDoorSize
namespace Go.Proofs.YtajndbikegongaaDoor
open Go.RowKit

/-- What Parse answers. -/
abbrev ansV (r : List UInt8 × Nat × Nat) : Value := .tuple #[.string ⟨r.1.toArray⟩, .int .i64 (r.2.1 : Int), .int .i64 (r.2.2 : Int)]

theorem parse_long (s : ByteArray) (h : 1200 < s.size) : Px.parse s.data.toList = ([], 1, 0) := by
  unfold Px.parse; rw [if_pos (by simpa using h)]
theorem parse_err (s : ByteArray) (h : s.size ≤ 1200) (c k : Nat) (ht : Px.top (2 * s.size + 2) (L s 0) = .inl (c, k)) : Px.parse s.data.toList = ([], c, s.size - k) := by
  have e : s.data.toList.length = s.size := by simp
  unfold Px.parse; rw [if_neg (by rw [e]; omega), e]
  have : L s 0 = s.data.toList := rfl
  rw [this] at ht; rw [ht]
theorem parse_ok (s : ByteArray) (h : s.size ≤ 1200) (ts : List (List UInt8)) (rr : List UInt8) (ht : Px.top (2 * s.size + 2) (L s 0) = .inr (ts, rr)) : Px.parse s.data.toList = (Px.lines ts, 0, 0) := by
  have e : s.data.toList.length = s.size := by simp
  unfold Px.parse; rw [if_neg (by rw [e]; omega), e]
  have : L s 0 = s.data.toList := rfl
  rw [this] at ht; rw [ht]

theorem lines_take (ts : List (List UInt8)) (k : Nat) (h : k < ts.length) : Px.lines (ts.take (k + 1)) = Px.lines (ts.take k) ++ (ts[k] ++ [10]) := by
  rw [List.take_succ_eq_append_getElem h, Px.lines_append]; simp [Px.lines]

set_option maxHeartbeats 1000000 in
theorem parse_any (s : ByteArray) (w : World) (hG : GV w) (hT : GT w) (hw : 4 ≤ w.heap.size) (hmax : s.size ≤ 140737488355328) :
    Calls Tryd.prog 5 #[.string s] w fun e w' => e = .returned (ansV (Px.parse s.data.toList)) ∧ Below w.heap.size w w' := by
  have HG := Lib.hid hG
  have HTb := Lib.hid hT
  clear hG hT
  by_cases hs : 1200 < s.size
  · rw [parse_long s hs]
    go_enter Tryd.func5, Tryd.ntmps5
    go_wp2_with (go_at_call 7; refine (text_long s _ hs hmax).mono ?_; rintro e w1 ⟨hb, N, rfl, hN, hN2⟩; refine Hid.out ?_)
    have HB := Lib.hid hb
    have c0 : w1.cell? ⟨N, 0, none⟩ = some (.int .i64 1) := by simp [World.cell?, hN2]
    have c1 : w1.cell? ⟨N, 1, none⟩ = some (.int .i64 0) := by simp [World.cell?, hN2]
    clear hb hN hN2
    refine Lib.hid ?_
    go_wp2
    go_quiet (fail)
    go_wp2
    go_ret3
    exact ⟨rfl, HB.out.drewN' _⟩
  · cases ht : Px.top (2 * s.size + 2) (L s 0) with
    | inl ck =>
      obtain ⟨c, k⟩ := ck
      rw [parse_err s (by omega) c k ht]
      have hTx := text_any s w (by omega) HG.out hw
      rw [ht] at hTx
      have HTx := Lib.hid hTx
      obtain ⟨pl, hpl⟩ : ∃ pl : Nat, pl = s.size - k := ⟨_, rfl⟩
      rw [← hpl]
      have HPl := Lib.hid hpl
      clear hTx ht hpl
      go_enter Tryd.func5, Tryd.ntmps5
      go_wp2_with (go_at_call 7; refine HTx.out.mono ?_; rintro e w1 ⟨hb, N, rfl, hN, hN2⟩; refine Hid.out ?_)
      have HB := Lib.hid hb
      have c0 : w1.cell? ⟨N, 0, none⟩ = some (.int .i64 (c : Int)) := by simp [World.cell?, hN2]
      have c1 : w1.cell? ⟨N, 1, none⟩ = some (.int .i64 (pl : Int)) := by rw [HPl.out]; simp [World.cell?, hN2]
      clear hb hN hN2
      refine Lib.hid ?_
      go_wp2
      go_quiet (fail)
      go_wp2
      go_ret3
      exact ⟨rfl, HB.out.drewN' _⟩
    | inr xr =>
      obtain ⟨ts, rr⟩ := xr
      rw [parse_ok s (by omega) ts rr ht]
      have hTx := text_any s w (by omega) HG.out hw
      rw [ht] at hTx
      have HTx := Lib.hid hTx
      have hfit := Px.top_fits _ _ _ _ ht
      rw [L_len] at hfit
      have hlin : (Px.lines ts).length ≤ 26400 := by omega
      clear hTx ht hfit
      go_enter Tryd.func5, Tryd.ntmps5
      go_wp2_with (go_at_call 7; refine HTx.out.mono ?_; rintro e w1 ⟨hb, es, a, cap, rfl, hown, hmem, hel⟩; refine Hid.out ?_)
      have HB := Lib.hid hb
      have HOwn := Lib.hid hown
      have HMem := Lib.hid hmem
      have hsz : w.heap.size ≤ w1.heap.size := hb.size
      have HBd : Hid (Bd w1.heap.size w1 [] (w1.alloc (.cells #[.pointer none, .slice none 0 0] 35))) := ⟨Lib.IsBuilderF.of (Lib.fresh_isBuilder 35 5 w1), (Lib.OthersKept.refl _ _ _).alloc _, (HTb.out.below hb hw).below ((Below.refl _ _).alloc (Nat.le_refl _) _) (by omega), by omega⟩
      clear hb hown hmem
      refine Lib.hid ?_
      go_wp2
      go_loopw [27] (fun i wr => ∃ k : Nat, k ≤ es.length ∧ i = .int .i64 k ∧ Bd w1.heap.size w1 (Px.lines (ts.take k)) wr ∧ Below w.heap.size w wr) (fun i _ => es.length - (intOf i).toNat)
      case atStart => exact ⟨0, Nat.zero_le _, rfl, by simpa [Px.lines] using HBd.out, HB.out.alloc hsz _⟩
      case round =>
        obtain ⟨k, hk, rfl, hBr, hbl⟩ := hrel
        have HBr := Lib.hid hBr
        have HBl := Lib.hid hbl
        clear hBr hbl
        by_cases hlt : k < es.length
        · have hkt : k < ts.length := by rw [← HMem.out.len]; exact hlt
          obtain ⟨g, rfl, hcell, hlc, hcm⟩ := row_cells HOwn.out rfl HBr.out.oth (Nat.le_refl _) k hlt
          have hrep := HMem.out.all k es[k] ts[k] (List.getElem?_eq_getElem hlt) (List.getElem?_eq_getElem hkt)
          have hlt1 := lines_take ts k hkt
          have hll := Px.lines_take_le ts (k + 1)
          rw [hlt1] at hll
          obtain ⟨t, ht⟩ : ∃ t, t = ts[k] := ⟨_, rfl⟩
          rw [← ht] at hrep hlt1 hll
          have hll2 : (Px.lines (ts.take k)).length + t.length + 1 ≤ 26400 := by simp at hll; omega
          obtain ⟨⟨xk, xn, xtr, xtx, xa, xlen, xcap⟩, hx⟩ : ∃ x, x = es[k] := ⟨_, rfl⟩
          rw [← hx] at hrep hcell
          have c0 : wr.cell? ⟨g, k * 5, none⟩ = some (.int .i64 xk) := hcell 0 (by omega)
          have c1 : wr.cell? ⟨g, k * 5 + 1, none⟩ = some (.int .i64 xn) := hcell 1 (by omega)
          have c2 : wr.cell? ⟨g, k * 5 + 2, none⟩ = some (.bool xtr) := hcell 2 (by omega)
          have c3 : wr.cell? ⟨g, k * 5 + 3, none⟩ = some (.string xtx) := hcell 3 (by omega)
          have c4 : wr.cell? ⟨g, k * 5 + 4, none⟩ = some (.slice xa xlen xcap) := hcell 4 (by omega)
          have HRep := Lib.hid hrep
          have HLt := Lib.hid hlt1
          clear hcell ht hx hrep hlt1 hll
          unfold maxLen at hcm
          go_wp2_with (first | (go_at_call 8; refine (write_all w.heap.size w1.heap.size w1 32 ⟨xk, xn, xtr, xtx, xa, xlen, xcap⟩ t _ _ HRep.out (by exact HBr.out.alloc _) (by omega) (Nat.le_refl _)).mono ?_; rintro e w2 ⟨rfl, h1, h2⟩; have H3 := Lib.hid h1; have H4 := Lib.hid h2; clear h1 h2) | (go_at_call 9; refine (byte_any w1.heap.size w1 _ 10 _ H3.out (by simp; omega)).mono ?_; rintro e w3 ⟨rfl, h1, h2, h3⟩; have H5 := Lib.hid h1; have H6 := Lib.hid h2; clear h1 h2 h3))
          go_roundw
          case rel => exact ⟨k + 1, by omega, by go_num, by rw [HLt.out]; simpa using H5.out, ((HBl.out.alloc (by have := HBr.out.lt; omega) _).trans (H4.out.mono hsz)).trans (H6.out.mono hsz)⟩
          case measure => simp [intOf]; omega
        · have hke : k = es.length := by omega
          have HK := Lib.hid hke
          clear hke
          have hb2 := HBr.out
          rw [List.take_of_length_le (by rw [HK.out, HMem.out.len]; exact Nat.le_refl _)] at hb2
          have HB2 := Lib.hid hb2
          clear hb2
          go_wp2_with (go_at_call 10; refine (Tryd.Builder_String_any_k w1.heap.size w1.heap.size _ _ HB2.out.bld (Nat.le_of_lt HB2.out.lt)).mono ?_; rintro e w3 ⟨rfl, h1, h2, h3⟩; have H6 := Lib.hid h2; clear h1 h2 h3)
          go_ret3
          exact ⟨rfl, HBl.out.trans (H6.out.mono hsz)⟩

end Go.Proofs.YtajndbikegongaaDoor
