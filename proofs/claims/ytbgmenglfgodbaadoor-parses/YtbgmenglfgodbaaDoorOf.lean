/-
  OUR OWN. The walk of value.Of.
-/
import Derived.Test.YtbgmenglfgodbaaDoorVal
namespace Go.Proofs.YtbgmenglfgodbaaDoor
open Go.RowKit

theorem flat_cells (es : List El) : ∀ (k j : Nat), j < 6 → (es.flatMap El.cells)[k * 6 + j]? = es[k]?.bind fun x => x.cells[j]? := by
  induction es with
  | nil => intro k j _; simp
  | cons x r ih =>
    intro k j hj
    have hl : x.cells.length = 6 := rfl
    rw [List.flatMap_cons]
    cases k with
    | zero => rw [List.getElem?_append_left (by omega)]; simp
    | succ k =>
      rw [List.getElem?_append_right (by omega), show (k + 1) * 6 + j - x.cells.length = k * 6 + j from by omega, ih k j hj]; simp

theorem cell_of_cells (w : World) (g o : Nat) (cur : Array Value) (t : TypeId) (f : Nat × Nat) (h : w.heap[g]? = some (.cells cur t f)) : w.cell? ⟨g, o, none⟩ = cur[o]? := by
  simp [World.cell?, h]

/-- The cells of an element, in whatever later world. -/
theorem row_cells {lo : Nat} {w0 w : World} {a : Option Addr} {len cap : Nat} {es : List El} (hown : w0.ownsRow lo 39 6 (.slice a len cap) len (es.flatMap El.cells)) (hlen : es.length = len) (ho : Below w0.heap.size w0 w) (k : Nat) (hk : k < es.length) :
    ∃ g, a = some ⟨g, 0, none⟩ ∧ (∀ j, j < 6 → w.cell? ⟨g, k * 6 + j, none⟩ = es[k].cells[j]?) ∧ len ≤ cap ∧ cap ≤ maxLen ∧ g < w0.heap.size := by
  rcases hown.2 with ⟨_, hn⟩ | ⟨g, cap', cur, hv, hg, hh, hn, hcap, hsz, htake⟩
  · omega
  · cases hv
    have hlt := (Array.getElem?_eq_some_iff.1 hh).1
    refine ⟨g, rfl, fun j hj => ?_, hn, hcap, hlt⟩
    have hw : w.heap[g]? = some (.cells cur 39 (0, 0)) := by rw [ho.block g hlt]; exact hh
    rw [cell_of_cells w g (k * 6 + j) cur 39 (0, 0) hw]
    have h1 := flat_cells es k j hj
    rw [← htake, List.getElem?_take, if_pos (by omega), List.getElem?_eq_getElem hk] at h1
    simpa using h1

theorem join_len : ∀ l : List (List UInt8), l.length ≤ (Px.join l).length + 1
  | [] => by simp
  | [t] => by simp
  | t :: u :: r => by
    have := join_len (u :: r)
    show _ ≤ (t ++ 32 :: Px.join (u :: r)).length + 1
    simp at this ⊢; omega
theorem join_mem : ∀ (l : List (List UInt8)) (t : List UInt8), t ∈ l → t.length ≤ (Px.join l).length
  | [], t, h => by simp at h
  | [u], t, h => by simp at h; subst h; simp [Px.join]
  | u :: v :: r, t, h => by
    show _ ≤ (u ++ 32 :: Px.join (v :: r)).length
    rcases List.mem_cons.1 h with h | h
    · subst h; simp
    · have := join_mem (v :: r) t h
      simp; omega
theorem wr_list_len (l : List Dt) : l.length ≤ (Dt.wr (.list l)).length := by
  rw [Dt.wr_list]
  have := join_len (l.map Dt.wr)
  simp [Px.paren] at this ⊢; omega
theorem wr_mem_len (l : List Dt) (d : Dt) (h : d ∈ l) : d.wr.length ≤ (Dt.wr (.list l)).length := by
  rw [Dt.wr_list]
  have := join_mem (l.map Dt.wr) d.wr (List.mem_map_of_mem h)
  simp [Px.paren]; omega

theorem grown_of_below {w w' : World} (h : Below w.heap.size w w') : w.grownBy w' none := ⟨h.os, h.tape, h.output, h.size, fun i hi _ => h.block i hi⟩

theorem info46 : (Tryd.prog.info? 46).map (fun i => (i.zero, i.size, i.bytes)) = some (some .nilIface, 1, 16) := by kernel_rfl

def OfSaid (m : Nat) : Prop := ∀ (lo : Nat) (own : Nat → Prop) (x : El) (d : Dt) (w : World), Rep lo own w m x d → d.wr.length ≤ 100000 →
  Calls Tryd.prog 9 #[x.v] w fun e w' => ∃ v, e = .returned v ∧ VIn w.heap.size w' d.vt v ∧ Below w.heap.size w w'

/-- What the members so far are. -/
def ORel (G n : Nat) (ds : List Dt) (k : Nat) (wr : World) : Prop :=
  ∃ cs : Array Value, wr.heap[G]? = some (.cells cs 46 (0, 0)) ∧ cs.size = n ∧ ∀ (i : Nat) (d : Dt), i < k → ds[i]? = some d → ∃ v, cs[i]? = some v ∧ VIn (G + 1) wr d.vt v

set_option maxRecDepth 100000 in
set_option maxHeartbeats 2000000 in
theorem of_step (m : Nat) (ih : OfSaid m) : OfSaid (m + 1) := by
  intro lo own x d w hrep hlen
  obtain ⟨xk, xn, xtr, xtx, xm, xa, xlen, xcap⟩ := x
  rcases hrep with ⟨hk, hd, h0, h1⟩ | ⟨hk, hd⟩ | ⟨hk, hd⟩ | ⟨hk, hd⟩ | ⟨hk, es, ts, hd, hl, hrow, hall⟩
  · obtain rfl : xk = 0 := hk
    subst hd
    go_enter Tryd.func9, Tryd.ntmps9
    go_wp2
    go_ret
    exact ⟨_, rfl, ⟨rfl, h0, h1⟩, (Below.refl _ _).alloc (Nat.le_refl _) _⟩
  · obtain rfl : xk = 1 := hk
    subst hd
    go_enter Tryd.func9, Tryd.ntmps9
    go_wp2
    go_ret
    exact ⟨_, rfl, rfl, (Below.refl _ _).alloc (Nat.le_refl _) _⟩
  · obtain rfl : xk = 2 := hk
    subst hd
    go_enter Tryd.func9, Tryd.ntmps9
    go_wp2
    go_ret
    exact ⟨_, rfl, rfl, (Below.refl _ _).alloc (Nat.le_refl _) _⟩
  · obtain rfl : xk = 3 := hk
    subst hd
    go_enter Tryd.func9, Tryd.ntmps9
    go_wp2
    go_ret
    exact ⟨_, rfl, rfl, (Below.refl _ _).alloc (Nat.le_refl _) _⟩
  · obtain rfl : xk = 4 := hk
    subst hd
    have hnl := wr_list_len ts
    have hxl : xlen ≤ 100000 := by have := hrow.len; have : es.length = xlen := this; omega
    have HRow := Lib.hid hrow
    have HAll := Lib.hid hall
    have HL := Lib.hid hl
    have HLen := Lib.hid hlen
    have HIh := Lib.hid ih
    clear hrow hall hl ih
    have hmk : ∀ w : World, (Instr.makeSlice 69 (.int .i64 (xlen : Int)) (.int .i64 (xlen : Int))).run Tryd.prog w = .ok (.slice (some ⟨w.heap.size, 0, none⟩) xlen xlen) (w.alloc (.cells (madeCells #[.nilIface] xlen) 46)) :=
      fun w => run_make_row' 69 46 .nilIface 16 Tryd.underlying69 info46 rfl .i64 .i64 xlen (by omega) (by omega) w
    go_enter Tryd.func9, Tryd.ntmps9
    go_wp2
    go_loopw [35] (fun i wr => ∃ k : Nat, k ≤ xlen ∧ i = .int .i64 (k : Int) ∧ ORel (w.heap.size + 1) xlen ts k wr ∧ Below w.heap.size w wr) (fun i _ => xlen - (intOf i).toNat)
    case atStart =>
      refine ⟨0, Nat.zero_le _, rfl, ⟨madeCells #[.nilIface] xlen, ?_, by simp [madeCells], fun i d h => by omega⟩, ((Below.refl _ _).alloc (Nat.le_refl _) _).alloc (by simp) _⟩
      exact new2 _ _ _
    case round =>
      obtain ⟨k, hk, rfl, ⟨cs, hcs, hsz, hvs⟩, hbl⟩ := hrel
      have HB := Lib.hid hbl
      have HCs := Lib.hid hcs
      have HSz := Lib.hid hsz
      have HVs := Lib.hid hvs
      clear hbl hcs hsz hvs
      have hGr : w.heap.size + 1 < wr.heap.size := (Array.getElem?_eq_some_iff.1 HCs.out).1
      by_cases hlt : k < xlen
      · have hke : k < es.length := by have := HRow.out.len; have : es.length = xlen := this; omega
        have hkt : k < ts.length := by rw [← HL.out]; exact hke
        obtain ⟨g, rfl, hcell, hlc, hcm, hgw⟩ := row_cells HRow.out.owns HRow.out.len HB.out k hke
        have hrep := HAll.out k es[k] ts[k] (List.getElem?_eq_getElem hke) (List.getElem?_eq_getElem hkt)
        have hwl := wr_mem_len ts ts[k] (List.getElem_mem hkt)
        obtain ⟨⟨yk, yn, ytr, ytx, ym, ya, ylen, ycap⟩, hy⟩ : ∃ y, y = es[k] := ⟨_, rfl⟩
        rw [← hy] at hrep hcell
        have c0 : wr.cell? ⟨g, k * 6, none⟩ = some (.int .i64 yk) := hcell 0 (by omega)
        have c1 : wr.cell? ⟨g, k * 6 + 1, none⟩ = some (.int .i64 yn) := hcell 1 (by omega)
        have c2 : wr.cell? ⟨g, k * 6 + 2, none⟩ = some (.bool ytr) := hcell 2 (by omega)
        have c3 : wr.cell? ⟨g, k * 6 + 3, none⟩ = some (.string ytx) := hcell 3 (by omega)
        have c4 : wr.cell? ⟨g, k * 6 + 4, none⟩ = some (.int .i64 ym) := hcell 4 (by omega)
        have c5 : wr.cell? ⟨g, k * 6 + 5, none⟩ = some (.slice ya ylen ycap) := hcell 5 (by omega)
        have HRep : Hid (∀ w', Below w.heap.size w w' → Calls Tryd.prog 9 #[El.v ⟨yk, yn, ytr, ytx, ym, ya, ylen, ycap⟩] w' fun e w'' => ∃ v, e = .returned v ∧ VIn w'.heap.size w'' ts[k].vt v ∧ Below w'.heap.size w' w'') :=
          fun w' hb => HIh.out lo own _ _ w' (Rep.kept (grown_of_below hb) (fun g h => by cases h) hrep) (by have := HLen.out; omega)
        clear hcell hy hrep
        unfold maxLen at hcm
        have hkl : (k : Int) < (xlen : Int) := by omega
        go_wp2_with (go_at_call 9; refine (HRep.out _ (HB.out.alloc HB.out.size _)).mono ?_; rintro e w2 ⟨v, rfl, hv, hb2⟩; refine Hid.out ?_)
        have hs1 : (wr.alloc (Obj.cells #[Value.int IntKind.i64 yk, Value.int IntKind.i64 yn, Value.bool ytr, Value.string ytx, Value.int IntKind.i64 ym, Value.slice ya ylen ycap] 39)).heap.size = wr.heap.size + 1 := by simp
        rw [hs1] at hv
        have hb3 : Below wr.heap.size wr w2 := ((Below.refl _ wr).alloc (Nat.le_refl _) _).trans (hb2.mono (by simp))
        have hG2 : w2.heap[w.heap.size + 1]? = some (.cells cs 46 (0, 0)) := by rw [hb3.block _ hGr]; exact HCs.out
        have hkc : k < cs.size := by rw [HSz.out]; exact hlt
        have cG : w2.cell? ⟨w.heap.size + 1, k, none⟩ = some cs[k] := by rw [cell_of_cells _ _ _ _ _ _ hG2]; exact Array.getElem?_eq_getElem hkc
        have fG : w2.frozen? ⟨w.heap.size + 1, k, none⟩ = false := by simp [World.frozen?, hG2]
        have HV := Lib.hid hv
        have HB3 := Lib.hid hb3
        have HG2 := Lib.hid hG2
        obtain ⟨tp, pp, rfl⟩ := hv.form
        clear hv hb2 hb3 hG2 hs1
        refine Lib.hid ?_
        go_wp2
        go_roundw
        case rel =>
          have hw2 : w.heap.size ≤ w2.heap.size := Nat.le_trans HB.out.size HB3.out.size
          have hkk : ∀ g, w.heap.size + 1 + 1 ≤ g → (w2.setCell ⟨w.heap.size + 1, k, none⟩ (.iface tp pp)).heap[g]? = w2.heap[g]? := fun g hg => Below.heap_setCell _ _ _ _ (by intro e; have e' : g = w.heap.size + 1 := e; omega)
          refine ⟨k + 1, by omega, by go_num, ⟨cs.setIfInBounds k (.iface tp pp), ?_, by simpa using HSz.out, ?_⟩, Bset (HB.out.trans (HB3.out.mono HB.out.size)) (by omega)⟩
          · simp [World.setCell, Array.getElem?_modify, HG2.out]
          · intro i d hi hd
            by_cases hik : i = k
            · subst hik
              refine ⟨.iface tp pp, by simp [hkc], ?_⟩
              rw [List.getElem?_eq_getElem hkt] at hd
              cases hd
              exact VIn.lo (by omega) (HV.out.kept fun g hg _ => hkk g (by omega))
            · obtain ⟨v, h1, h2⟩ := HVs.out i d (by omega) hd
              refine ⟨v, by rw [Array.getElem?_setIfInBounds_ne (by omega)]; exact h1, ?_⟩
              exact (h2.below HB3.out).kept fun g hg _ => hkk g (by omega)
        case measure => simp [intOf]; omega
      · have hke : k = xlen := by omega
        have HK := Lib.hid hke
        clear hke
        have hel : cs.toList.length = xlen := by simpa using HSz.out
        have hL2 := vlist_any (w.heap.size + 1 + 1) (some ⟨w.heap.size + 1, 0, none⟩) xlen cs.toList (ts.map Dt.vt) .nil (.iface 72 (.agg #[])) wr rfl (by have := HRow.out.len; have h3 : es.length = xlen := this; have := HL.out; simp [HSz.out]; omega)
          (by
            intro i v t h1 h2
            rw [List.getElem?_map] at h2
            obtain ⟨d, hd, rfl⟩ := Option.map_eq_some_iff.1 h2
            have hi : i < cs.toList.length := (List.getElem?_eq_some_iff.1 h1).1
            obtain ⟨v', h3, h4⟩ := HVs.out i d (by rw [HK.out]; omega) hd
            rw [Array.getElem?_toList, h3] at h1
            cases h1; exact h4)
          (.inr ⟨_, 0, rfl, fun i h => by rw [Nat.zero_add, cell_of_cells _ _ _ _ _ _ HCs.out]; simp at h ⊢⟩) (by omega) (by omega) (by omega)
        rw [hel] at hL2
        have HL2 := Lib.hid hL2
        clear hL2 hel
        go_wp2_with (go_at_call 19; refine HL2.out.mono ?_; rintro e w2 ⟨v, rfl, hv, hb2⟩)
        go_ret
        refine ⟨_, rfl, ?_, HB.out.trans (hb2.mono HB.out.size)⟩
        have h9 : Dt.vt (.list ts) = (ts.map Dt.vt).foldr Vt.pair .nil := by rw [Dt.vt, Dt.vts_fold]
        rw [h9]
        exact VIn.lo (by omega) hv

theorem of_all : ∀ m : Nat, OfSaid m
  | 0 => fun _ _ _ _ _ h => False.elim h
  | m + 1 => of_step m (of_all m)

end Go.Proofs.YtbgmenglfgodbaaDoor
