/-
  OUR OWN. What value.Written hands out, as a range takes it.
-/
import Derived.Test.YtbgmenglfgodbaaDoorWr
namespace Go.Proofs.YtbgmenglfgodbaaDoor
open Go.RowKit Go.Shelf
attribute [local go_sem] Oper.semAt_some

set_option maxHeartbeats 1000000 in
theorem written_stops (bb lo Bt n : Nat) (t : Vt) (v : Value) (w : World) (hbl : bb < lo) (hc : w.heap[Bt]? = some (.cells #[v] 46 (0, 0))) (hB : Bt ≠ bb) (hv : VIn lo w t v) (hG : GT w) (h6 : 6 ≤ w.heap.size) (hl : t.wr.length ≤ 100000) :
    SeqStopsK Fence.wide n Tryd.prog 17 #[.pointer (some ⟨Bt, 0, none⟩)] (fun x : UInt8 => #[Value.int .u8 (x.toNat : Int)]) (Kp bb w.heap.size) (fun ys => ys = t.wr) (fun pre => pre <+: t.wr) t.wr.length w := by
  intro l J Jx W hW hJ _ hY h0
  have hdd : ∀ k : Nat, (Fence.wide.depth.isSome = true → 1 ≤ k) := fun k h => by cases h
  have hYl : Yl l bb w.heap.size t.wr.length J Jx := ⟨fun m pre x W hj hn => YieldAt.anyDepth rfl m (hY pre x W hj hn), fun pre A B hj hg => hJ pre A B none hj hg (fun r e => by cases e)⟩
  have hK : Kp bb w.heap.size w W := Kp.of hW h6
  have hp := write_all l bb lo t.wr.length J Jx w hYl hG h6 hl hbl t.sz t (Nat.le_refl _) (n - 1) v [] W hv hK h0 (by simp)
  have cB : W.cell? ⟨Bt, 0, none⟩ = some v := by
    have := hK.blk Bt _ (Array.getElem?_eq_some_iff.1 hc).1 hB hc (by intro c fz e; cases e)
    simp [World.cell?, this]
  clear hY hYl hJ hK
  refine callsIn_of_wp Tryd.func17 rfl trivial ?_ rfl
  simp only [Tryd.ntmps17, List.size_toArray, List.length_cons, List.length_nil, Nat.reduceAdd, Nat.reduceSub, Array.replicate_succ, Array.replicate_zero, List.push_toArray, List.append_toArray, List.nil_append, List.cons_append]
  gi_wp2_with (refine ⟨trivial, hdd _, ?_⟩; gi_at_call 18; refine hp.mono ?_; clear hp; rintro e W1 (⟨rfl, hJ1, _⟩ | ⟨rfl, q, hq, hx⟩))
  · go_end0
    exact ⟨⟨_, rfl⟩, .inl ⟨_, rfl, by simpa using hJ1⟩⟩
  · go_end0
    exact ⟨⟨_, rfl⟩, .inr ⟨q, hq, by simpa using hx⟩⟩

set_option maxHeartbeats 400000 in
theorem written_any (v : Value) (w : World) (tp : TypeId) (p : Value) (hv : v = .iface tp p) :
    Calls Tryd.prog 8 #[v] w fun e w' => e = .returned (.func (.func 17) #[] #[.pointer (some ⟨w.heap.size, 0, none⟩)]) ∧ w' = w.alloc (.cells #[v] 46) := by
  subst hv
  go_enter Tryd.func8, Tryd.ntmps8
  go_wp2
  go_ret
  exact ⟨rfl, rfl⟩

end Go.Proofs.YtbgmenglfgodbaaDoor
