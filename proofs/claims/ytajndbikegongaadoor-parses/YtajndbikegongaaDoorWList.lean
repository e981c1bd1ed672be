/-
  OUR OWN. The walk of writeList.
-/
import Derived.Test.YtajndbikegongaaDoorBuild
namespace Go.Proofs.YtajndbikegongaaDoor
open Go.RowKit

theorem join_snoc : ∀ (a : List (List UInt8)) (t : List UInt8), Px.join (a ++ [t]) = Px.join a ++ ((if a = [] then [] else [32]) ++ t)
  | [], t => by simp [Px.join]
  | [u], t => by simp [Px.join]
  | u :: v :: r, t => by
    have ih := join_snoc (v :: r) t
    show u ++ 32 :: Px.join (v :: r ++ [t]) = (u ++ 32 :: Px.join (v :: r)) ++ _
    rw [ih]; simp

theorem join_take (ts : List (List UInt8)) (k : Nat) (h : k < ts.length) : Px.join (ts.take (k + 1)) = Px.join (ts.take k) ++ ((if k = 0 then [] else [32]) ++ ts[k]) := by
  rw [List.take_succ_eq_append_getElem h, join_snoc]
  congr 2
  by_cases hk : k = 0
  · subst hk; simp
  · rw [if_neg hk, if_neg]
    intro e
    have := congrArg List.length e
    rw [List.length_take, List.length_nil] at this; omega

theorem join_take_le' (ts : List (List UInt8)) : ∀ n k : Nat, k + n = ts.length → (Px.join (ts.take k)).length ≤ (Px.join ts).length
  | 0, k, h => by rw [List.take_of_length_le (by omega)]; exact Nat.le_refl _
  | n + 1, k, h => by
    have ih := join_take_le' ts n (k + 1) (by omega)
    rw [join_take ts k (by omega)] at ih
    simp at ih; omega
theorem join_take_le (ts : List (List UInt8)) (k : Nat) (h : k ≤ ts.length) : (Px.join (ts.take k)).length ≤ (Px.join ts).length := join_take_le' ts (ts.length - k) k (by omega)

theorem flat_cells (es : List El) : ∀ (k j : Nat), j < 5 → (es.flatMap El.cells)[k * 5 + j]? = es[k]?.bind fun x => x.cells[j]? := by
  induction es with
  | nil => intro k j _; simp
  | cons x r ih =>
    intro k j hj
    have hl : x.cells.length = 5 := rfl
    rw [List.flatMap_cons]
    cases k with
    | zero => rw [List.getElem?_append_left (by omega)]; simp
    | succ k =>
      rw [List.getElem?_append_right (by omega), show (k + 1) * 5 + j - x.cells.length = k * 5 + j from by omega, ih k j hj]; simp

/-- The cells of an element, in whatever later world. -/
theorem row_cells {lo b : Nat} {w0 w : World} {a : Option Addr} {len cap : Nat} {es : List El} (hown : w0.ownsRow lo 38 5 (.slice a len cap) len (es.flatMap El.cells)) (hlen : es.length = len) (ho : Lib.OthersKept 5 (some b) w0 w) (hb : w0.heap.size ≤ b) (k : Nat) (hk : k < es.length) :
    ∃ g, a = some ⟨g, 0, none⟩ ∧ (∀ j, j < 5 → w.cell? ⟨g, k * 5 + j, none⟩ = es[k].cells[j]?) ∧ len ≤ cap ∧ cap ≤ maxLen := by
  rcases hown.2 with ⟨_, hn⟩ | ⟨g, cap', cur, hv, hg, hh, hn, hcap, hsz, htake⟩
  · omega
  · cases hv
    refine ⟨g, rfl, fun j hj => ?_, hn, hcap⟩
    have hw : w.heap[g]? = some (.cells cur 38 (0, 0)) := ho g _ hh (by have := (Array.getElem?_eq_some_iff.1 hh).1; intro e; cases e; omega) (by intro c fz e; cases e)
    rw [cell_of_row w g (k * 5 + j) cur 38 (0, 0) hw]
    have h1 := flat_cells es k j hj
    rw [← htake, List.getElem?_take, if_pos (by omega), List.getElem?_eq_getElem hk] at h1
    simpa using h1

def WriteSaid (lo b : Nat) (w0 : World) (m : Nat) : Prop := ∀ (x : El) (t l : List UInt8) (w : World), Rep lo NoB w0 m x t → Bd b w0 l w → l.length + t.length ≤ 100000 → w0.heap.size ≤ b →
  Calls Tryd.prog 8 #[.pointer (some ⟨b, 0, none⟩), x.v] w fun e w' => e = .returned (.tuple #[]) ∧ Bd b w0 (l ++ t) w' ∧ Below b w w'

set_option maxHeartbeats 1000000 in
theorem writeList_any (lo b : Nat) (w0 : World) (m : Nat) (hW : WriteSaid lo b w0 m) (a : Option Addr) (len cap : Nat) (es : List El) (ts : List (List UInt8)) (l : List UInt8) (w : World)
    (hown : w0.ownsRow lo 38 5 (.slice a len cap) len (es.flatMap El.cells)) (hlen : es.length = len) (hts : es.length = ts.length)
    (hall : ∀ (i : Nat) (x : El) (u : List UInt8), es[i]? = some x → ts[i]? = some u → Rep lo NoB w0 m x u)
    (hB : Bd b w0 l w) (hl : l.length + (Px.paren ts).length ≤ 100000) (hb : w0.heap.size ≤ b) (hm : len ≤ 100000) :
    Calls Tryd.prog 19 #[.pointer (some ⟨b, 0, none⟩), .slice a len cap] w fun e w' => e = .returned (.tuple #[]) ∧ Bd b w0 (l ++ Px.paren ts) w' ∧ Below b w w' := by
  have HB := Lib.hid hB
  have HW := Lib.hid hW
  have HOwn := Lib.hid hown
  have HAll := Lib.hid hall
  have HTs := Lib.hid hts
  have HLen := Lib.hid hlen
  have hpl : (Px.paren ts).length = (Px.join ts).length + 2 := by simp [Px.paren]
  have HPl := Lib.hid hpl
  have hl2 : l.length + (Px.join ts).length + 2 ≤ 100000 := by omega
  clear hB hW hown hall hts hlen hpl hl
  go_enter Tryd.func19, Tryd.ntmps19
  go_wp2_with (go_at_call 9; refine (byte_any b w0 l 40 _ HB.out (by omega)).mono ?_; rintro e w1 ⟨rfl, h1, h2, h3⟩; have H1 := Lib.hid h1; have H2 := Lib.hid h2; clear h1 h2 h3; refine Hid.out ?_)
  refine Lib.hid ?_
  go_wp2
  go_loopw [10] (fun i wr => ∃ k : Nat, k ≤ len ∧ i = .int .i64 k ∧ Bd b w0 (l ++ 40 :: Px.join (ts.take k)) wr ∧ Below b w wr) (fun i _ => len - (intOf i).toNat)
  case atStart => exact ⟨0, Nat.zero_le _, rfl, by simpa [Px.join] using H1.out, H2.out⟩
  case round =>
    obtain ⟨k, hk, rfl, hBr, hbl⟩ := hrel
    have HBr := Lib.hid hBr
    have HBl := Lib.hid hbl
    clear hBr hbl
    by_cases hlt : k < len
    · have hke : k < es.length := by rw [HLen.out]; exact hlt
      have hkt : k < ts.length := by rw [← HTs.out]; exact hke
      obtain ⟨g, rfl, hcell, hlc, hcm⟩ := row_cells HOwn.out HLen.out HBr.out.oth hb k hke
      have hrep := HAll.out k es[k] ts[k] (List.getElem?_eq_getElem hke) (List.getElem?_eq_getElem hkt)
      obtain ⟨t, ht⟩ : ∃ t, t = ts[k] := ⟨_, rfl⟩
      rw [← ht] at hrep
      obtain ⟨⟨xk, xn, xtr, xtx, xa, xlen, xcap⟩, hx⟩ : ∃ x, x = es[k] := ⟨_, rfl⟩
      rw [← hx] at hrep hcell
      have c0 : wr.cell? ⟨g, k * 5, none⟩ = some (.int .i64 xk) := hcell 0 (by omega)
      have c1 : wr.cell? ⟨g, k * 5 + 1, none⟩ = some (.int .i64 xn) := hcell 1 (by omega)
      have c2 : wr.cell? ⟨g, k * 5 + 2, none⟩ = some (.bool xtr) := hcell 2 (by omega)
      have c3 : wr.cell? ⟨g, k * 5 + 3, none⟩ = some (.string xtx) := hcell 3 (by omega)
      have c4 : wr.cell? ⟨g, k * 5 + 4, none⟩ = some (.slice xa xlen xcap) := hcell 4 (by omega)
      have HT := Lib.hid ht
      have HRep := Lib.hid hrep
      clear hcell ht hx hrep
      unfold maxLen at hcm
      have hjt := join_take ts k hkt
      have hjl := join_take_le ts (k + 1) (by omega)
      rw [hjt] at hjl
      rw [← HT.out] at hjt hjl
      by_cases hk0 : k = 0
      · subst hk0
        rw [if_pos rfl] at hjt hjl
        have HJt := Lib.hid hjt
        have hjl' : (Px.join (ts.take 0)).length + t.length ≤ (Px.join ts).length := by simpa using hjl
        clear hjt hjl
        go_wp2_with (go_at_call 8; refine (HW.out ⟨xk, xn, xtr, xtx, xa, xlen, xcap⟩ t _ _ HRep.out (by exact HBr.out.alloc _) (by simp at hjl' ⊢; omega) hb).mono ?_; rintro e w' ⟨rfl, h1, h2⟩; have H3 := Lib.hid h1; have H4 := Lib.hid h2; clear h1 h2)
        go_roundw
        case rel => exact ⟨1, by omega, rfl, by have h3 := H3.out; rw [show (1 : Nat) = 0 + 1 from rfl, HJt.out]; simpa using h3, (HBl.out.alloc (Nat.le_of_lt HBr.out.lt) _).trans H4.out⟩
        case measure => simp [intOf]; omega
      · rw [if_neg hk0] at hjt hjl
        have HJt := Lib.hid hjt
        have hjl' : (Px.join (ts.take k)).length + 1 + t.length ≤ (Px.join ts).length := by simp at hjl; omega
        have hkp : 0 < k := by omega
        clear hjt hjl hk0
        go_wp2_with (go_at_call 9; refine (byte_any b w0 _ 32 _ (by exact HBr.out.alloc _) (by simp; omega)).mono ?_; rintro e w2 ⟨rfl, h1, h2, h3⟩; have H5 := Lib.hid h1; have H6 := Lib.hid h2; refine Hid.out ?_)
        have hbw : wr.heap.size < w2.heap.size := by have := h2.size; simp at this; omega
        have hbx : w2.heap[wr.heap.size]? = some (.cells #[.int .i64 xk, .int .i64 xn, .bool xtr, .string xtx, .slice xa xlen xcap] 38 (0, 0)) := h3 _ _ (heap_alloc_new _ _) (by have := HBr.out.lt; intro e; cases e; omega) (by intro c fz e; cases e)
        have d0 : w2.cell? ⟨wr.heap.size, 0, none⟩ = some (.int .i64 xk) := by simp [World.cell?, hbx]
        have d1 : w2.cell? ⟨wr.heap.size, 1, none⟩ = some (.int .i64 xn) := by simp [World.cell?, hbx]
        have d2 : w2.cell? ⟨wr.heap.size, 2, none⟩ = some (.bool xtr) := by simp [World.cell?, hbx]
        have d3 : w2.cell? ⟨wr.heap.size, 3, none⟩ = some (.string xtx) := by simp [World.cell?, hbx]
        have d4 : w2.cell? ⟨wr.heap.size, 4, none⟩ = some (.slice xa xlen xcap) := by simp [World.cell?, hbx]
        clear h1 h2 h3 hbx
        refine Lib.hid ?_
        go_wp2_with (go_at_call 8; refine (HW.out ⟨xk, xn, xtr, xtx, xa, xlen, xcap⟩ t _ _ HRep.out (by exact H5.out) (by simp at hjl' ⊢; omega) hb).mono ?_; rintro e w' ⟨rfl, h1, h2⟩; have H3 := Lib.hid h1; have H4 := Lib.hid h2; clear h1 h2)
        go_roundw
        case rel => exact ⟨k + 1, by omega, by go_num, by have h3 := H3.out; rw [HJt.out]; simpa using h3, ((HBl.out.alloc (Nat.le_of_lt HBr.out.lt) _).trans H6.out).trans H4.out⟩
        case measure => simp [intOf]; omega
    · have hke : k = len := by omega
      have HK := Lib.hid hke
      clear hke
      go_wp2_with (go_at_call 9; refine (byte_any b w0 _ 41 _ HBr.out (by have := join_take_le ts k (by rw [← HTs.out, HLen.out]; omega); simp; omega)).mono ?_; rintro e w2 ⟨rfl, h1, h2, h3⟩; have H5 := Lib.hid h1; have H6 := Lib.hid h2; clear h1 h2 h3)
      go_end0
      refine ⟨rfl, ?_, HBl.out.trans H6.out⟩
      have h5 := H5.out
      rw [List.take_of_length_le (by rw [HK.out, ← HLen.out, HTs.out]; exact Nat.le_refl _)] at h5
      unfold Px.paren
      simpa using h5

end Go.Proofs.YtajndbikegongaaDoor
