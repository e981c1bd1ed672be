/-
  OUR OWN. The walk of pupil.Parse.
-/
import Derived.Test.YtbgmenglfgodbaaDoorBuild
import Derived.Test.YtbgmenglfgodbaaDoorSize
import Derived.RangeFuncFrom
import Derived.Sort.LoopGhostIn
namespace Go.Proofs.YtbgmenglfgodbaaDoor
open Go.RowKit Go.Shelf
attribute [local go_sem] Oper.semAt_some

theorem Bd.turn {b : Nat} {w0 : World} {l : List UInt8} {W W' : World} {row : Option Nat} (h : Bd b w0 l W) (hg : W.grownBy W' row) (hr : ∀ r, row = some r → w0.heap.size ≤ r ∧ 6 ≤ r ∧ ∃ o : Obj, W.heap[r]? = some o ∧ o.isCells = false) : Bd b w0 l W' := by
  have hlt := h.lt
  have nc : ∀ (k : Nat) (cs : Array Value) (t : TypeId) (fz : Nat × Nat), W.heap[k]? = some (Obj.cells cs t fz) → W'.heap[k]? = W.heap[k]? := by
    intro k cs t fz hk
    refine hg.block k (Array.getElem?_eq_some_iff.1 hk).1 ?_
    intro e
    obtain ⟨_, _, o, ho, hc⟩ := hr k e.symm
    rw [hk] at ho; cases ho; cases hc
  have key : ∀ p, Lib.BuilderAtF 35 5 b b p (Lib.byteCells l) W → Lib.BuilderAtF 35 5 b b p (Lib.byteCells l) W' := by
    rintro p ⟨h1, v, h2, h3, h4⟩
    refine ⟨h1, v, by rw [nc b _ _ _ h2]; exact h2, h3.kept hg ?_, h4⟩
    rcases h3.2 with ⟨rfl, _⟩ | ⟨g, cap, cur, fz, rfl, _, hgg, _⟩
    · exact .inl rfl
    · right
      intro e
      obtain ⟨_, _, o, ho, hc⟩ := hr g (e.symm.trans rfl)
      rw [hgg] at ho; cases ho; cases hc
  refine ⟨h.bld.elim (fun x => .inl (key _ x)) (fun x => .inr (key _ x)), ?_, ?_, h.six⟩
  · intro k o hk hkb ho
    have h1 := h.oth k o hk hkb ho
    rw [hg.block k (Array.getElem?_eq_some_iff.1 h1).1 (by
      intro e; have := (hr k e.symm).1; have := (Array.getElem?_eq_some_iff.1 hk).1; omega)]; exact h1
  · have := h.tab
    unfold GT Lib.TabIs World.var? at *
    simp only [pow10_no, Option.bind_some] at this ⊢
    rw [hg.block 0 (by have := h.six; omega) (by intro e; have := (hr 0 e.symm).2.1; omega)]; exact this

/-- What Parse answers. -/
abbrev ansV (r : List UInt8 × Nat × Nat) : Value := .tuple #[.string ⟨r.1.toArray⟩, .int .i64 (r.2.1 : Int), .int .i64 (r.2.2 : Int)]

theorem parse_long (s : ByteArray) (h : 1200 < s.size) : Px.parse s.data.toList = ([], 1, 0) := by
  unfold Px.parse; rw [if_pos (by simpa using h)]
theorem top_of (f : Nat) (l : List UInt8) : Px.top f l = (match Py.topP f l with | .inl e => .inl e | .inr (xs, rr) => .inr (xs.map (fun x => x.1.wr), rr)) := by
  rw [Py.top_map, Py.topP_top]
  rcases Py.topP f l with e | ⟨xs, rr⟩
  · rfl
  · simp [Py.mapR, Function.comp_def]
theorem parse_err (s : ByteArray) (h : s.size ≤ 1200) (c k : Nat) (ht : Py.topP (2 * s.size + 2) (L s 0) = .inl (c, k)) : Px.parse s.data.toList = ([], c, s.size - k) := by
  have e : s.data.toList.length = s.size := by simp
  unfold Px.parse; rw [if_neg (by rw [e]; omega), e]
  have : L s 0 = s.data.toList := rfl
  rw [this] at ht; rw [top_of, ht]
theorem parse_ok (s : ByteArray) (h : s.size ≤ 1200) (ts : List (Dt × Nat)) (rr : List UInt8) (ht : Py.topP (2 * s.size + 2) (L s 0) = .inr (ts, rr)) : Px.parse s.data.toList = (Px.lines (ts.map (fun x => x.1.wr)), 0, 0) := by
  have e : s.data.toList.length = s.size := by simp
  unfold Px.parse; rw [if_neg (by rw [e]; omega), e]
  have : L s 0 = s.data.toList := rfl
  rw [this] at ht; rw [top_of, ht]

theorem lines_take (ts : List (List UInt8)) (k : Nat) (h : k < ts.length) : Px.lines (ts.take (k + 1)) = Px.lines (ts.take k) ++ (ts[k] ++ [10]) := by
  rw [List.take_succ_eq_append_getElem h, Px.lines_append]; simp [Px.lines]

abbrev markD (D : Nat) : Deferred := { target := .collected D, args := #[] }

theorem leaves_marks {F : Fence} {n : Nat} {P : Program} {fn : Func} {tmps : Array Value} {R : Ending → World → Prop} {B : Nat} : ∀ (Ds : List Nat) (w : World), Ds.Nodup → (∀ D, D ∈ Ds → B ≤ D ∧ w.heap[D]? = some (.deferred (some []))) →
    (∀ w', Below B w w' → LeavesInM F n P fn tmps R [] .returning w') → B ≤ w.heap.size → LeavesInM F n P fn tmps R (Ds.map markD) .returning w
  | [], w, _, _, h, _ => h w (Below.refl _ _)
  | D :: Ds, w, hnd, hD, h, hB => by
    obtain ⟨h1, h2⟩ := hD D (List.mem_cons_self ..)
    have hg := grownBy_putObj' w D (.deferred none)
    have hbl : Below B w (w.putObj D (.deferred none)) := ⟨hg.os, hg.tape, hg.output, hg.size, fun k hk => hg.block k (by omega) (by intro e; cases e; omega)⟩
    refine ⟨by simp, .inl ⟨D, _, rfl, run_takeDeferred h2, ?_⟩⟩
    refine leaves_marks Ds _ (List.nodup_cons.1 hnd).2 (fun E hE => ?_) (fun w' hw' => h w' (hbl.trans hw')) (Nat.le_trans hB hg.size)
    obtain ⟨h3, h4⟩ := hD E (List.mem_cons_of_mem _ hE)
    exact ⟨h3, by rw [hg.block E (Array.getElem?_eq_some_iff.1 h4).1 (by intro e; cases e; exact (List.nodup_cons.1 hnd).1 hE)]; exact h4⟩

/-- Where the loop of Parse is. -/
def PI (s : ByteArray) (a : Option Addr) (len cap b : Nat) (w1 : World) (ls : List (List UInt8)) (gf : Nat) (x : Act) (wr : World) : Prop :=
  ∃ (k : Nat) (Ds : List Nat) (u9 u10 u29 u30 u31 u32 u33 u34 u35 u36 u37 u38 u39 u40 : Value), k + gf = len ∧ x = { tmps := #[.string s, undef, .string ⟨#[]⟩, .int .i64 0, .int .i64 0, .slice a len cap, .pointer none, .pointer (some ⟨b, 0, none⟩), undef, u9, u10, .tuple #[.slice a len cap, .pointer none], .string s, .tuple #[.slice a len cap, .pointer none], .slice a len cap, .pointer none, .pointer none, .bool false, undef, undef, undef, undef, undef, undef, undef, undef, .slice a len cap, .int .i64 (len : Int), .int .i64 (k : Int), u29, u30, u31, u32, u33, u34, u35, u36, u37, u38, u39, u40, undef], defers := Ds.map markD } ∧
    Bd b w1 (Px.lines (ls.take k)) wr ∧ Below b w1 wr ∧ (∀ D, D ∈ Ds → b < D ∧ wr.heap[D]? = some (.deferred (some []))) ∧ Ds.Nodup

theorem form_cells (es : List (El × Int)) : ∀ (k j : Nat), j < 7 → (es.flatMap Fe.cells)[k * 7 + j]? = es[k]?.bind fun x => (Fe.cells x)[j]? := by
  induction es with
  | nil => intro k j _; simp
  | cons x r ih =>
    intro k j hj
    have hl : (Fe.cells x).length = 7 := rfl
    rw [List.flatMap_cons]
    cases k with
    | zero => rw [List.getElem?_append_left (by omega)]; simp
    | succ k =>
      rw [List.getElem?_append_right (by omega), show (k + 1) * 7 + j - (Fe.cells x).length = k * 7 + j from by omega, ih k j hj]; simp

/-- The cells of a form, in whatever later world. -/
theorem form_row {lo : Nat} {w0 w : World} {a : Option Addr} {len cap : Nat} {es : List (El × Int)} (hown : w0.ownsRow lo 41 7 (.slice a len cap) len (es.flatMap Fe.cells)) (hlen : es.length = len) (ho : Below w0.heap.size w0 w) (k : Nat) (hk : k < es.length) :
    ∃ g, a = some ⟨g, 0, none⟩ ∧ (∀ j, j < 7 → w.cell? ⟨g, k * 7 + j, none⟩ = (Fe.cells es[k])[j]?) ∧ len ≤ cap ∧ cap ≤ maxLen ∧ g < w0.heap.size := by
  rcases hown.2 with ⟨_, hn⟩ | ⟨g, cap', cur, hv, hg, hh, hn, hcap, hsz, htake⟩
  · omega
  · cases hv
    have hlt := (Array.getElem?_eq_some_iff.1 hh).1
    refine ⟨g, rfl, fun j hj => ?_, hn, hcap, hlt⟩
    have hw : w.heap[g]? = some (.cells cur 41 (0, 0)) := by rw [ho.block g hlt]; exact hh
    rw [cell_of_cells w g (k * 7 + j) cur 41 (0, 0) hw]
    have h1 := form_cells es k j hj
    rw [← htake, List.getElem?_take, if_pos (by omega), List.getElem?_eq_getElem hk] at h1
    simpa using h1

set_option maxRecDepth 100000 in
set_option maxHeartbeats 4000000 in
theorem parse_in (n : Nat) (hn : 6 ≤ n) (s : ByteArray) (w : World) (hs : s.size ≤ 1200) (hG : GV w) (hT : GT w) (hw : 6 ≤ w.heap.size) (ts : List (Dt × Nat)) (rr : List UInt8) (ht : Py.topP (2 * s.size + 2) (L s 0) = .inr (ts, rr)) :
    CallsIn Fence.wide n Tryd.prog 5 #[.string s] w fun e w' => e = .returned (ansV (Px.lines (ts.map (fun x => x.1.wr)), 0, 0)) ∧ Below w.heap.size w w' := by
  have hdd : ∀ k : Nat, (Fence.wide.depth.isSome = true → 1 ≤ k) := fun k h => by cases h
  have hTx := text_any s w hs hG hw
  rw [ht] at hTx
  have HTx := Lib.hid hTx
  have HTb := Lib.hid hT
  have hfit := Px.top_fits (2 * s.size + 2) (L s 0) (ts.map (fun x => x.1.wr)) rr (by rw [top_of, ht])
  rw [L_len] at hfit
  have hlin : (Px.lines (ts.map (fun x => x.1.wr))).length ≤ 26400 := by omega
  clear hTx ht hfit hG hT
  refine callsIn_of_wp_marks Tryd.func5 rfl trivial ?_ rfl
  simp only [Tryd.ntmps5, List.size_toArray, List.length_cons, List.length_nil, Nat.reduceAdd, Nat.reduceSub, Array.replicate_succ, Array.replicate_zero, List.push_toArray, List.append_toArray, List.nil_append, List.cons_append]
  gi_wp2_with (refine ⟨trivial, hdd _, ?_⟩; gi_at_call 7; refine (callsIn_wide.2 HTx.out).mono ?_; rintro e w1 ⟨hb, es, a, cap, rfl, hown, hmem, hpl, hel⟩; refine Hid.out ?_)
  have HB := Lib.hid hb
  have HOwn := Lib.hid hown
  have HMem := Lib.hid hmem
  have hsz : w.heap.size ≤ w1.heap.size := hb.size
  clear hb hown hmem hpl
  refine Lib.hid ?_
  gi_wp2
  obtain ⟨b, hb⟩ : ∃ b, b = w1.heap.size := ⟨_, rfl⟩
  have HBd : Hid (Bd b w1 [] (w1.alloc (.cells #[.pointer none, .slice none 0 0] 35))) := by
    subst hb; exact ⟨Lib.IsBuilderF.of (Lib.fresh_isBuilder 35 5 w1), (Lib.OthersKept.refl _ _ _).alloc _, (HTb.out.below HB.out hw).below ((Below.refl _ _).alloc (Nat.le_refl _) _) (by omega), by omega⟩
  rw [← hb]
  obtain ⟨len, hlenE⟩ : ∃ len, len = es.length := ⟨_, rfl⟩
  rw [← hlenE] at HOwn ⊢
  have HLen := Lib.hid hlenE
  have HBe := Lib.hid hb
  have hbw : w1.heap.size ≤ b := by omega
  have hwb : w.heap.size ≤ b := by omega
  clear hlenE hb
  refine wpIn_loop_ghost_k (PI s a len cap b w1 (ts.map (fun x => x.1.wr))) len ?_ ?_
  · exact ⟨0, [], undef, undef, undef, undef, undef, undef, undef, undef, undef, undef, undef, undef, undef, undef, by omega, rfl, by simpa [Px.lines] using HBd.out, by rw [HBe.out]; exact (Below.refl _ _).alloc (Nat.le_refl _) _, by simp, by simp⟩
  intro gf act wr hrel J K hJ hK
  obtain ⟨k, Ds, u9, u10, u29, u30, u31, u32, u33, u34, u35, u36, u37, u38, u39, u40, hkg, rfl, hBr, hbl, hDs, hnd⟩ := hrel
  have HJ := Lib.hid hJ
  have HK := Lib.hid hK
  have HBr := Lib.hid hBr
  have HBl := Lib.hid hbl
  have HDs := Lib.hid hDs
  have HNd := Lib.hid hnd
  clear hJ hK hBr hbl hDs hnd
  by_cases hlt : k < len
  · have hke : k < es.length := by rw [← HLen.out]; exact hlt
    have hml : (es.map (·.1)).length = (ts.map (·.1)).length := HMem.out.len
    have hkt : k < ts.length := by simp at hml; omega
    have hbE : Below w1.heap.size w1 wr := by rw [← HBe.out]; exact HBl.out
    obtain ⟨g, rfl, hcell, hlc, hcm, hgw⟩ := form_row HOwn.out HLen.out.symm hbE k hke
    have hrep := HMem.out.all k es[k].1 ts[k].1 (by simp [hke]) (by simp [hkt])
    obtain ⟨⟨⟨yk, yn, ytr, ytx, ym, ya, ylen, ycap⟩, ypl⟩, hy⟩ : ∃ y, y = es[k] := ⟨_, rfl⟩
    rw [← hy] at hrep hcell
    have c0 : wr.cell? ⟨g, k * 7, none⟩ = some (.int .i64 yk) := hcell 0 (by omega)
    have c1 : wr.cell? ⟨g, k * 7 + 1, none⟩ = some (.int .i64 yn) := hcell 1 (by omega)
    have c2 : wr.cell? ⟨g, k * 7 + 2, none⟩ = some (.bool ytr) := hcell 2 (by omega)
    have c3 : wr.cell? ⟨g, k * 7 + 3, none⟩ = some (.string ytx) := hcell 3 (by omega)
    have c4 : wr.cell? ⟨g, k * 7 + 4, none⟩ = some (.int .i64 ym) := hcell 4 (by omega)
    have c5 : wr.cell? ⟨g, k * 7 + 5, none⟩ = some (.slice ya ylen ycap) := hcell 5 (by omega)
    have c6 : wr.cell? ⟨g, k * 7 + 6, none⟩ = some (.int .i64 ypl) := hcell 6 (by omega)
    obtain ⟨d, hd⟩ : ∃ d, d = ts[k].1 := ⟨_, rfl⟩
    rw [← hd] at hrep
    have hlt1 := lines_take (ts.map (fun x => x.1.wr)) k (by simpa using hkt)
    have hgd : (ts.map (fun x => x.1.wr))[k]'(by simpa using hkt) = d.wr := by simp [hd]
    rw [hgd] at hlt1
    have hll := Px.lines_take_le (ts.map (fun x => x.1.wr)) (k + 1)
    rw [hlt1] at hll
    have hll2 : (Px.lines ((ts.map (fun x => x.1.wr)).take k)).length + d.wr.length + 1 ≤ 26400 := by simp at hll hlin ⊢; omega
    have HOf : Hid (∀ w', Below w1.heap.size w1 w' → Calls Tryd.prog 9 #[El.v ⟨yk, yn, ytr, ytx, ym, ya, ylen, ycap⟩] w' fun e w'' => ∃ v, e = .returned v ∧ VIn w'.heap.size w'' d.vt v ∧ Below w'.heap.size w' w'') :=
      fun w' hb' => of_all 32 w.heap.size NoB _ d w' (Rep.kept (grown_of_below hb') (fun g h => by cases h) hrep) (by omega)
    have HLt := Lib.hid hlt1
    clear hcell hy hrep hlt1 hll hgd hd
    unfold maxLen at hcm
    have hkl : (k : Int) < (len : Int) := by omega
    have hwrb : b < wr.heap.size := HBr.out.lt
    gi_wp2_with (first
      | (refine ⟨trivial, hdd _, ?_⟩; gi_at_call 9; refine (callsIn_wide.2 (HOf.out _ (by rw [← HBe.out]; exact HBl.out.alloc (Nat.le_of_lt hwrb) _))).mono ?_; rintro e w3 ⟨v, rfl, hv, hb3⟩; obtain ⟨tp, pp, rfl⟩ := hv.form; have HV := Lib.hid hv; have HB3 := Lib.hid hb3; clear hv hb3)
      | (refine ⟨trivial, hdd _, ?_⟩; gi_at_call 8; refine (callsIn_wide.2 (written_any (.iface tp pp) _ tp pp rfl)).mono ?_; rintro e w5 ⟨rfl, rfl⟩))
    have hs3 : wr.heap.size + 1 ≤ w3.heap.size := by have := HB3.out.size; simpa using this
    have hv5 : VIn (wr.heap.size + 1) (w3.alloc (.cells #[.iface tp pp] 46)) d.vt (.iface tp pp) := by
      have := HV.out
      rw [World.size_alloc] at this
      exact this.below ((Below.refl _ _).alloc (Nat.le_refl _) _)
    have hB3' : Below wr.heap.size wr w3 := ((Below.refl _ _).alloc (Nat.le_refl _) _).trans (HB3.out.mono (by simp))
    have hBd5 : Bd b w1 (Px.lines ((ts.map (fun x => x.1.wr)).take k)) (w3.alloc (.cells #[.iface tp pp] 46)) := (HBr.out.grown hB3').alloc _
    have hBl5 : Below b w1 (w3.alloc (.cells #[.iface tp pp] 46)) := (HBl.out.trans (hB3'.mono (Nat.le_of_lt hwrb))).alloc (by omega) _
    have hDs5 : ∀ D, D ∈ Ds → b < D ∧ (w3.alloc (.cells #[.iface tp pp] 46)).heap[D]? = some (.deferred (some [])) := fun D hD => by
      obtain ⟨h1, h2⟩ := HDs.out D hD
      have h3 := (Array.getElem?_eq_some_iff.1 h2).1
      exact ⟨h1, by rw [Below.heap_alloc _ _ _ (by omega), hB3'.block D h3]; exact h2⟩
    have hsz5 : (w3.alloc (.cells #[.iface tp pp] 46)).heap.size = w3.heap.size + 1 := by simp
    have hseq := written_stops b (wr.heap.size + 1) w3.heap.size (n - 1) d.vt (.iface tp pp) (w3.alloc (.cells #[.iface tp pp] 46)) (by omega) (heap_alloc_new _ _) (by omega) hv5 hBd5.tab (by have := hBd5.six; omega) (by rw [Dt.vt_wr]; omega)
    rw [Dt.vt_wr] at hseq
    have HBd5 := Lib.hid hBd5
    have HBl5 := Lib.hid hBl5
    have HDs5 := Lib.hid hDs5
    have HB35 := Lib.hid hB3'
    clear hv5 hB3' hBd5 hBl5 hDs5
    refine wpIn_rangeFunc_ownF rfl (by omega) (gf := 17) (lb := #[.pointer (some ⟨w3.heap.size, 0, none⟩)]) rfl trivial (enters_of Tryd.func17 (by kernel_rfl) rfl) hseq (fun h k => h.trans k) ?hKb (Below.refl _ _) (fun _ => rfl)
      (fun pre W => Bd b w1 (Px.lines ((ts.map (fun x => x.1.wr)).take k) ++ pre) W ∧ Below b w1 W ∧ (∀ D, D ∈ Ds → b < D ∧ W.heap[D]? = some (.deferred (some []))))
      (fun _ _ _ => False) ?hI (fun _ _ _ _ _ hs _ _ => hs) ⟨by simpa using HBd5.out, HBl5.out, HDs5.out⟩
      (fun x => { tmps := #[.string s, undef, .string ⟨#[]⟩, .int .i64 0, .int .i64 0, .slice (some ⟨g, 0, none⟩) len cap, .pointer none, .pointer (some ⟨b, 0, none⟩), undef, .pointer (some ⟨wr.heap.size, 0, none⟩), .int .u8 (x.toNat : Int), .tuple #[.slice (some ⟨g, 0, none⟩) len cap, .pointer none], .string s, .tuple #[.slice (some ⟨g, 0, none⟩) len cap, .pointer none], .slice (some ⟨g, 0, none⟩) len cap, .pointer none, .pointer none, .bool false, undef, undef, undef, undef, undef, undef, undef, undef, .slice (some ⟨g, 0, none⟩) len cap, .int .i64 (len : Int), .int .i64 (k : Int), .bool true, .pointer (some ⟨g, k * 7, none⟩), .agg #[.int .i64 yk, .int .i64 yn, .bool ytr, .string ytx, .int .i64 ym, .slice ya ylen ycap, .int .i64 ypl], .pointer (some ⟨wr.heap.size, 0, none⟩), .agg #[.int .i64 yk, .int .i64 yn, .bool ytr, .string ytx, .int .i64 ym, .slice ya ylen ycap], .iface tp pp, .func (.func 17) #[] #[.pointer (some ⟨w3.heap.size, 0, none⟩)], .int .u8 (x.toNat : Int), u37, u38, u39, u40, undef], defers := [] }) ?assign ?body ?done ?stop
    case hKb =>
      intro W l o o' hl ho hc _
      have hgp := grownBy_putObj' W l o'
      have hll := (Array.getElem?_eq_some_iff.1 ho).1
      have h6 := HBd5.out.six
      exact ⟨hgp.size, fun g hg => hgp.block g (by omega) (by intro e; cases e; omega), fun i oo hi _ h3 _ => by rw [hgp.block i (Array.getElem?_eq_some_iff.1 h3).1 (by intro e; cases e; omega)]; exact h3⟩
    case hI =>
      intro pre W W' row hs hg hr
      have h6 := HBd5.out.six
      refine ⟨hs.1.turn hg (fun r e => ?_), ownFrom_below (β := Unit) (by rw [HBe.out]; exact Nat.le_refl _) (by omega) () W W' row hs.2.1 hg hr, fun D hD => ?_⟩
      · obtain ⟨h1, h2⟩ := hr r e
        exact ⟨by omega, by omega, h2⟩
      · obtain ⟨h1, h2⟩ := hs.2.2 D hD
        have h3 := (Array.getElem?_eq_some_iff.1 (HDs5.out D hD).2).1
        refine ⟨h1, ?_⟩
        rw [hg.block D (Array.getElem?_eq_some_iff.1 h2).1 (by intro e; have := (hr D e.symm).1; omega)]; exact h2
    case assign =>
      intro l x W K hK
      gi_wp2
      exact hK
    case body =>
      rintro l pre x W ⟨hB, hbl, hD⟩ hpl
      have hWb := hB.lt
      have HBW := Lib.hid hB
      have HblW := Lib.hid hbl
      have HDW := Lib.hid hD
      clear hB hbl hD
      gi_wp2_with (refine ⟨trivial, hdd _, ?_⟩; gi_at_call 10; refine (CallsIn.inRound l (callsIn_wide.2 (byte_any b w1 _ x W HBW.out (by simp; omega)))).mono ?_; rintro e W' ⟨rfl, h1, h2, h3⟩; have H1 := Lib.hid h1; have H2 := Lib.hid h2; have H3 := Lib.hid h3; clear h1 h2 h3)
      have hbc : ∀ o : Obj, W.heap[b]? = some o → o.isCells = true := by
        intro o ho
        rcases HBW.out.bld with ⟨_, v, h2, _⟩ | ⟨_, v, h2, _⟩ <;> (rw [h2] at ho; cases ho; rfl)
      refine ⟨⟨H2.out.size, fun k o hk ho => H3.out k o hk (by intro e; cases e; rw [hbc o hk] at ho; cases ho) (by intro c fz e; subst e; cases ho)⟩, ⟨H2.out.size, fun g hg => H2.out.block g (by have := HBW.out.six; omega), fun k o _ hne hk hno => H3.out k o hk (by intro e; cases e; exact hne rfl) hno⟩, by simpa using H1.out, HblW.out.trans H2.out, fun D hD => ?_⟩
      obtain ⟨h1, h2⟩ := HDW.out D hD
      exact ⟨h1, H3.out D _ h2 (by intro e; cases e; omega) (by intro c fz e; cases e)⟩
    case done =>
      rintro D ys W hDsz rfl ⟨hB, hbl, hD⟩ hKD
      have hWb := hB.lt
      have HBW := Lib.hid hB
      have HblW := Lib.hid hbl
      have HDW := Lib.hid hD
      have HKD := Lib.hid hKD
      clear hB hbl hD hKD
      gi_wp2_with (refine ⟨trivial, hdd _, ?_⟩; gi_at_call 10; refine (callsIn_wide.2 (byte_any b w1 _ 10 W HBW.out (by simp; omega))).mono ?_; rintro e W' ⟨rfl, h1, h2, h3⟩; have H1 := Lib.hid h1; have H2 := Lib.hid h2; have H3 := Lib.hid h3; clear h1 h2 h3)
      refine HK.out _ _ (Handed.intro (gf - 1) (by omega) (HJ.out _ _ _ ⟨k + 1, D :: Ds, .pointer (some ⟨wr.heap.size, 0, none⟩), u10, _, _, _, _, _, _, _, _, _, _, _, _, by omega, by rw [show ((k : Int) + 1) = ((k + 1 : Nat) : Int) from by omega]; rfl, ?_, HblW.out.trans H2.out, ?_, ?_⟩))
      · rw [HLt.out]; simpa using H1.out
      · intro E hE
        rcases List.mem_cons.1 hE with rfl | hE
        · exact ⟨by omega, H3.out _ _ HKD.out (by intro e; cases e; omega) (by intro c fz e; cases e)⟩
        · obtain ⟨h1, h2⟩ := HDW.out E hE
          exact ⟨h1, H3.out E _ h2 (by intro e; cases e; omega) (by intro c fz e; cases e)⟩
      · refine List.nodup_cons.2 ⟨fun hD => ?_, HNd.out⟩
        have := (Array.getElem?_eq_some_iff.1 (HDs5.out D hD).2).1
        omega
    case stop =>
      rintro D c pre W _ _ h _
      exact h.elim
  · have hke : k = len := by omega
    have HKe := Lib.hid hke
    clear hke
    have hkl : ¬ ((k : Int) < (len : Int)) := by omega
    have hb2 := HBr.out
    have hml : (es.map (·.1)).length = (ts.map (·.1)).length := HMem.out.len
    rw [List.take_of_length_le (by have h1 := HKe.out; have h2 := HLen.out; simp at hml ⊢; omega)] at hb2
    have HB2 := Lib.hid hb2
    clear hb2 hml
    gi_wp2_with (refine ⟨trivial, hdd _, ?_⟩; gi_at_call 11; refine (callsIn_wide.2 (Tryd.Builder_String_any_k b b _ _ HB2.out.bld (Nat.le_of_lt HB2.out.lt))).mono ?_; rintro e w3 ⟨rfl, h1, h2, h3⟩; have H2 := Lib.hid h2; have H3 := Lib.hid h3; clear h1 h2 h3)
    refine leaves_marks (B := w.heap.size) Ds w3 HNd.out (fun D hD => ?_) (fun w' hw' => ?_) ?_
    · obtain ⟨h1, h2⟩ := HDs.out D hD
      exact ⟨by omega, H3.out D _ h2 (by intro e; cases e; omega) (by intro c fz e; cases e)⟩
    · have hfin : Below w.heap.size w w' := ((HB.out.trans (HBl.out.mono hwb)).trans (H2.out.mono hwb)).trans hw'
      exact ⟨.tuple #[.string ⟨(Px.lines (ts.map (fun x => x.1.wr))).toArray⟩, .int .i64 0, .int .i64 0], by simp [results, Tryd.results5, go_sem], rfl, hfin⟩
    · have h1 := HBl.out.size
      have h2 := H2.out.size
      omega

set_option maxHeartbeats 1000000 in
theorem parse_any (s : ByteArray) (w : World) (hG : GV w) (hT : GT w) (hw : 6 ≤ w.heap.size) (hmax : s.size ≤ 140737488355328) :
    Calls Tryd.prog 5 #[.string s] w fun e w' => e = .returned (ansV (Px.parse s.data.toList)) ∧ Below w.heap.size w w' := by
  have HG := Lib.hid hG
  have HTb := Lib.hid hT
  clear hG hT
  by_cases hs : 1200 < s.size
  · rw [parse_long s hs]
    go_enter Tryd.func5, Tryd.ntmps5
    go_wp2_with (go_at_call 7; refine (text_long s _ hs hmax).mono ?_; rintro e w1 ⟨hb, N, rfl, hN, hN2⟩; refine Hid.out ?_)
    have HB := Lib.hid hb
    have c0 : w1.cell? ⟨N, 0, none⟩ = some (.int .i64 1) := by simp [World.cell?, hN2]
    have c1 : w1.cell? ⟨N, 1, none⟩ = some (.int .i64 0) := by simp [World.cell?, hN2]
    clear hb hN hN2
    refine Lib.hid ?_
    go_wp2
    go_quiet (fail)
    go_wp2
    go_ret3
    exact ⟨rfl, HB.out.drewN' _⟩
  · cases ht : Py.topP (2 * s.size + 2) (L s 0) with
    | inl ck =>
      obtain ⟨c, k⟩ := ck
      rw [parse_err s (by omega) c k ht]
      have hTx := text_any s w (by omega) HG.out hw
      rw [ht] at hTx
      have HTx := Lib.hid hTx
      obtain ⟨pl, hpl⟩ : ∃ pl : Nat, pl = s.size - k := ⟨_, rfl⟩
      rw [← hpl]
      have HPl := Lib.hid hpl
      clear hTx ht hpl
      go_enter Tryd.func5, Tryd.ntmps5
      go_wp2_with (go_at_call 7; refine HTx.out.mono ?_; rintro e w1 ⟨hb, N, rfl, hN, hN2⟩; refine Hid.out ?_)
      have HB := Lib.hid hb
      have c0 : w1.cell? ⟨N, 0, none⟩ = some (.int .i64 (c : Int)) := by simp [World.cell?, hN2]
      have c1 : w1.cell? ⟨N, 1, none⟩ = some (.int .i64 (pl : Int)) := by rw [HPl.out]; simp [World.cell?, hN2]
      clear hb hN hN2
      refine Lib.hid ?_
      go_wp2
      go_quiet (fail)
      go_wp2
      go_ret3
      exact ⟨rfl, HB.out.drewN' _⟩
    | inr xr =>
      obtain ⟨ts, rr⟩ := xr
      rw [parse_ok s (by omega) ts rr ht]
      exact callsIn_wide.1 (parse_in 10 (by omega) s w (by omega) HG.out HTb.out hw ts rr ht)

end Go.Proofs.YtbgmenglfgodbaaDoor
