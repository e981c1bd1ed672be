/-
  OUR OWN. Values in memory, told as trees; value.List.
-/
import Derived.Test.YtbgmenglfgodbaaDoorRep
import Derived.Deep.OwnRows
namespace Go.Proofs.YtbgmenglfgodbaaDoor
open Go.RowKit

/-- A value. -/
inductive Vt where
  | num (v : Int)
  | bool (b : Bool)
  | str (t : ByteArray)
  | sym (t : ByteArray)
  | nil
  | pair (a b : Vt)

/-- In w the value v is t; its pairs lie from block lo on. -/
def VIn (lo : Nat) (w : World) : Vt → Value → Prop
  | .num n, v => v = .iface 65 (.int .i64 n) ∧ -9223372036854775808 ≤ n ∧ n ≤ 9223372036854775807
  | .bool b, v => v = .iface 66 (.bool b)
  | .str t, v => v = .iface 67 (.string t)
  | .sym t, v => v = .iface 68 (.string t)
  | .nil, v => v = .iface 72 (.agg #[])
  | .pair a b, v => ∃ (g : Nat) (x y : Value), v = .iface 83 (.pointer (some ⟨g, 0, none⟩)) ∧ lo ≤ g ∧ w.heap[g]? = some (.cells #[x, y] 89 (0, 0)) ∧ VIn lo w a x ∧ VIn lo w b y

theorem VIn.kept {lo : Nat} {w w' : World} (h : ∀ g, lo ≤ g → g < w.heap.size → w'.heap[g]? = w.heap[g]?) : ∀ {t : Vt} {v : Value}, VIn lo w t v → VIn lo w' t v
  | .num _, _, hv => hv
  | .bool _, _, hv => hv
  | .str _, _, hv => hv
  | .sym _, _, hv => hv
  | .nil, _, hv => hv
  | .pair _ _, _, ⟨g, x, y, hv, hl, hh, ha, hb⟩ => ⟨g, x, y, hv, hl, by rw [h g hl (Array.getElem?_eq_some_iff.1 hh).1]; exact hh, VIn.kept h ha, VIn.kept h hb⟩
theorem VIn.below {lo : Nat} {w w' : World} {t : Vt} {v : Value} (hv : VIn lo w t v) (h : Below w.heap.size w w') : VIn lo w' t v := hv.kept fun g _ hg => h.block g hg
theorem VIn.lo {lo lo' : Nat} {w : World} (hl : lo' ≤ lo) : ∀ {t : Vt} {v : Value}, VIn lo w t v → VIn lo' w t v
  | .num _, _, hv => hv
  | .bool _, _, hv => hv
  | .str _, _, hv => hv
  | .sym _, _, hv => hv
  | .nil, _, hv => hv
  | .pair _ _, _, ⟨g, x, y, hv, h1, hh, ha, hb⟩ => ⟨g, x, y, hv, Nat.le_trans hl h1, hh, VIn.lo hl ha, VIn.lo hl hb⟩

theorem VIn.form {lo : Nat} {w : World} : ∀ {t : Vt} {v : Value}, VIn lo w t v → ∃ tp p, v = .iface tp p
  | .num _, _, h => ⟨_, _, h.1⟩
  | .bool _, _, h => ⟨_, _, h⟩
  | .str _, _, h => ⟨_, _, h⟩
  | .sym _, _, h => ⟨_, _, h⟩
  | .nil, _, h => ⟨_, _, h⟩
  | .pair _ _, _, ⟨_, _, _, h, _⟩ => ⟨_, _, h⟩

mutual
/-- A datum's value. -/
def Dt.vt : Dt → Vt
  | .num v => .num v
  | .bool b => .bool b
  | .str t => .str ⟨t.toArray⟩
  | .sym t _ => .sym ⟨t.toArray⟩
  | .list l => Dt.vts l
def Dt.vts : List Dt → Vt
  | [] => .nil
  | d :: r => .pair d.vt (Dt.vts r)
end
theorem Dt.vts_fold : ∀ l : List Dt, Dt.vts l = (l.map Dt.vt).foldr Vt.pair .nil
  | [] => rfl
  | d :: r => by rw [Dt.vts, Dt.vts_fold r]; rfl

/-- The cells from a on hold vs. -/
def RowV (w : World) (a : Option Addr) (vs : List Value) : Prop := vs = [] ∨ ∃ g o, a = some ⟨g, o, none⟩ ∧ ∀ i (h : i < vs.length), w.cell? ⟨g, o + i, none⟩ = some vs[i]

set_option maxHeartbeats 1000000 in
theorem vlist_any (lo : Nat) (a : Option Addr) (cap : Nat) (vs : List Value) (ts : List Vt) (tr : Vt) (r : Value) (w : World) (hr : VIn lo w tr r) (hts : vs.length = ts.length)
    (hall : ∀ (i : Nat) (v : Value) (t : Vt), vs[i]? = some v → ts[i]? = some t → VIn lo w t v) (hrow : RowV w a vs) (hlo : lo ≤ w.heap.size) (hn : vs.length ≤ cap) (hcap : cap ≤ 100000) :
    Calls Tryd.prog 19 #[.slice a vs.length cap, r] w fun e w' => ∃ v, e = .returned v ∧ VIn lo w' (ts.foldr .pair tr) v ∧ Below w.heap.size w w' := by
  have HR := Lib.hid hr
  have HA := Lib.hid hall
  have HRow := Lib.hid hrow
  have HTs := Lib.hid hts
  clear hr hall hrow hts
  go_enter Tryd.func19, Tryd.ntmps19
  go_wp2
  go_loopw [5, 1] (fun i x wr => ∃ k : Nat, k ≤ vs.length ∧ i = .int .i64 ((k : Int) - 1) ∧ VIn lo wr ((ts.drop k).foldr .pair tr) x ∧ Below w.heap.size w wr) (fun i _ _ => (intOf i + 1).toNat)
  case atStart => exact ⟨vs.length, Nat.le_refl _, by first | rfl | go_num, by rw [HTs.out]; simpa using HR.out, Below.refl _ _⟩
  case round =>
    obtain ⟨k, hk, rfl, hx, hbl⟩ := hrel
    have HX := Lib.hid hx
    have HB := Lib.hid hbl
    clear hx hbl
    by_cases hk0 : 0 < k
    · obtain ⟨j, rfl⟩ : ∃ j, k = j + 1 := ⟨k - 1, by omega⟩
      have hj : j < vs.length := by omega
      have HRw := HRow.out
      rcases HRw with h0 | ⟨g, o, rfl, hc⟩
      · rw [h0] at hj; simp at hj
      have hcj := hc j hj
      have hgw : g < w.heap.size := by
        rcases Nat.lt_or_ge g w.heap.size with h | h
        · exact h
        · rw [World.cell?] at hcj; simp [Array.getElem?_eq_none h] at hcj
      have hcj' : wr.cell? ⟨g, o + j, none⟩ = some vs[j] := (HB.out.cell (p := ⟨g, o + j, none⟩) hgw).trans hcj
      have hjt : j < ts.length := by rw [← HTs.out]; exact hj
      have HE := Lib.hid (HA.out j vs[j] ts[j] (List.getElem?_eq_getElem hj) (List.getElem?_eq_getElem hjt))
      obtain ⟨tp, p, hvj⟩ := HE.out.form
      obtain ⟨tp1, p1, rfl⟩ := HX.out.form
      have HVj := Lib.hid hvj
      rw [hvj] at hcj'
      clear hcj hc hvj
      have hjn : (j : Int) < (vs.length : Int) := by omega
      go_wp2
      go_roundw
      case rel =>
        refine ⟨j, by omega, by first | rfl | go_num, ?_, HB.out.alloc HB.out.size _⟩
        rw [List.drop_eq_getElem_cons hjt, List.foldr_cons]
        have hk : ∀ g, lo ≤ g → g < wr.heap.size → (wr.alloc (.cells #[.iface tp p, .iface tp1 p1] 89 (0, 0))).heap[g]? = wr.heap[g]? := fun g _ hg => Below.heap_alloc _ _ _ hg
        refine ⟨wr.heap.size, _, _, rfl, by have := HB.out.size; omega, heap_alloc_new _ _, ?_, HX.out.kept hk⟩
        have h1 := (HE.out.below HB.out).kept hk
        rw [HVj.out] at h1; exact h1
      case measure => simp [intOf]
    · have hk1 : k = 0 := by omega
      have HK := Lib.hid hk1
      clear hk1
      have hq : (k : Int) - 1 < 0 := by omega
      go_wp2
      go_ret
      have := HX.out
      rw [HK.out, List.drop_zero] at this
      exact ⟨_, rfl, this, HB.out⟩

end Go.Proofs.YtbgmenglfgodbaaDoor
