/-
  A tally that is none tells nothing: the contract of told at nil; TallyNil's walk.
-/
import Derived.RangeFuncNested
import Derived.RangeFuncBound
import Derived.RangeFuncCalls
import Derived.RangeFuncLeaves
import Derived.RangeFuncFrom
import Derived.Shelf.Abstract
import Derived.OwnWalkIn
import Derived.TacticsInMore
import Derived.LoopNIn
import Derived.LoopIn
import Derived.Test.YtmmmjkmhlkkdkaaTlN
namespace Go.Proofs.Ytmmmjkmhlkkdkaa
open Go.ChangeShapes Go.WideShapes Go.ChangeAt Go.RowKit Go.Shelf
attribute [local go_sem] Oper.semAt_some

theorem new_cell (W : World) (v : Value) (t : TypeId) : (W.alloc (.cells #[v] t)).cell? ⟨W.heap.size, 0, none⟩ = some v := by
  rw [cell_of_row _ _ 0 _ t (0, 0) (heap_alloc_new _ _)]; rfl
theorem keep_cell {W : World} {a : Addr} {v : Value} (o : Obj) (h : W.cell? a = some v) : (W.alloc o).cell? a = some v :=
  (World.cell?_of_block (Below.heap_alloc W o a.block (World.block_lt_of_cell? W a h))).trans h
/-- All: a function value that holds the tally's pointer in a box. -/
theorem All_in (F : Fence) (n : Nat) (h29 : F.fn 24) (hro : F.round = none) (p : Option Addr) (w : World) :
    CallsIn F n Try.prog 24 #[.pointer p] w fun e w' => e = .returned (.func (.func 32) #[] #[.pointer (some ⟨w.heap.size, 0, none⟩)]) ∧ w' = w.alloc (.cells #[.pointer p] 24) := by
  refine callsIn_of_wp Try.func24 rfl h29 ?_ hro
  simp only [Try.ntmps24, List.size_toArray, List.length_cons, List.length_nil, Nat.reduceAdd, Nat.reduceSub, Array.replicate_succ, Array.replicate_zero, List.push_toArray, List.append_toArray, List.nil_append, List.cons_append]
  gi_wp2
  go_ret
  exact ⟨rfl, rfl⟩
/-- The iterator of a tally that is none. -/
theorem nil_stops (F : Fence) (n : Nat) (h33 : F.fn 32) (hro : F.round = none) (Bn : Nat) (w : World) (hb : w.cell? ⟨Bn, 0, none⟩ = some (.pointer none)) (hlt : Bn < w.heap.size) :
    SeqStopsK F n Try.prog 32 #[.pointer (some ⟨Bn, 0, none⟩)] (fun x : Empty => x.elim) (Below w.heap.size) (fun xs => xs = []) (fun _ => False) 0 w := fun l J Jx W hW _ _ _ h0 => by
  have hb' : W.cell? ⟨Bn, 0, none⟩ = some (.pointer none) := (hW.cell (p := ⟨Bn, 0, none⟩) hlt).trans hb
  refine callsIn_of_wp Try.func32 rfl h33 ?_ hro
  simp only [Try.ntmps32, List.size_toArray, List.length_cons, List.length_nil, Nat.reduceAdd, Nat.reduceSub, Array.replicate_succ, Array.replicate_zero, List.push_toArray, List.append_toArray, List.nil_append, List.cons_append]
  gi_wp2
  refine bodyPost_ret (results_none rfl _ _ _) rfl ?_
  exact ⟨⟨_, rfl⟩, h0⟩
theorem func_ne_nil (f : Nat) (fv : Array Value) (W : World) : (binOp .neq 62 (.func (.func f) #[] fv) .nilFunc).run Try.prog W = .ok (.bool true) W := by kernel_rfl

set_option maxRecDepth 100000 in
set_option maxHeartbeats 2000000 in
theorem told_nil (F : Fence) (n : Nat) (h18 : F.fn 13) (h29 : F.fn 24) (h33 : F.fn 32) (hro : F.round = none) (hn : 3 ≤ n) (m : Int) (w : World) :
    CallsIn F n Try.prog 13 #[.pointer none, .int .i64 m] w fun e W' => e = .returned (.slice none 0 0) ∧ Below w.heap.size w W' := by
  have h1 : 1 ≤ n := by omega
  refine callsIn_of_wp_marks Try.func13 rfl h18 ?_ hro
  simp only [Try.ntmps13, List.size_toArray, List.length_cons, List.length_nil, Nat.reduceAdd, Nat.reduceSub, Array.replicate_succ, Array.replicate_zero, List.push_toArray, List.append_toArray, List.nil_append, List.cons_append]
  have hq := func_ne_nil
  gi_wp2_with (gi_at_call 24; refine (All_in F (n - 1) h29 hro _ _).mono ?_; rintro e w' ⟨rfl, rfl⟩)
  clear hq
  have c1 := new_cell (w.alloc (.cells #[.int .i64 m] 3)) (.slice none 0 0) 27
  have c3 := new_cell ((w.alloc (.cells #[.int .i64 m] 3)).alloc (.cells #[.slice none 0 0] 27)) (.pointer none) 24
  simp only [World.size_alloc] at c1 c3
  have hB0 : Below w.heap.size w (((w.alloc (.cells #[.int .i64 m] 3)).alloc (.cells #[.slice none 0 0] 27)).alloc (.cells #[.pointer none] 24)) := (((Below.refl _ w).alloc (Nat.le_refl _) _).alloc (by simp) _).alloc (by simp; omega) _
  refine wpIn_rangeFunc_ownF hro h1 (gf := 32) (lb := #[.pointer (some ⟨w.heap.size + 1 + 1, 0, none⟩)]) rfl h33 (enters_of Try.func32 (by kernel_rfl) rfl)
    (nil_stops F (n - 1) h33 hro (w.heap.size + 1 + 1) _ c3 (by simp)) belowK_t (belowK_b (Nat.le_refl _)) (Below.refl _ _) (fun x => x.elim)
    (fun _ W => (W.cell? ⟨w.heap.size + 1, 0, none⟩ = some (.slice none 0 0)) ∧ Below w.heap.size w W)
    (fun _ _ _ => False)
    (OwnFrom.and (Own.from (fun s A B row hs hg hr => cell_kept hs hg hr) _) (ownFrom_below (Nat.le_refl _) (by simp; omega)))
    (fun _ _ _ _ _ hs _ _ => hs)
    ⟨keep_cell _ c1, hB0⟩
    (fun x => x.elim) ?assign ?body ?done ?stop
  case assign =>
    intro l x
    exact x.elim
  case body =>
    rintro l pre x
    exact x.elim
  case done =>
    rintro D ys W hD rfl ⟨hc1, hB⟩ hK
    clear c1 c3
    gi_wp2
    have hK' : W.heap[D]? = some (.deferred (some [])) := hK
    refine ⟨by simp, .inl ⟨_, _, rfl, run_takeDeferred hK', ?_⟩⟩
    exact ⟨_, results_tmp rfl _ _ _, rfl, hB.trans (belowK_b (w := w) (Nat.le_refl _) W D _ _ (by simp at hD; omega) hK' rfl rfl)⟩
  case stop =>
    rintro D c pre W _ _ h _
    exact h.elim
theorem told_none (m : Int) (w : World) : Calls Try.prog 13 #[.pointer none, .int .i64 m] w fun e W' => e = .returned (.slice none 0 0) ∧ Below w.heap.size w W' :=
  (callsIn_wide (n := 3)).1 (told_nil Fence.wide 3 trivial trivial trivial rfl (by omega) m w)

set_option maxHeartbeats 1000000 in
set_option maxRecDepth 100000 in
theorem Nil_any (w : World) (k x : Int) : Calls Try.prog 6 #[.int .u64 k, .int .u32 x] w fun e w' => e = .returned (.bool true) ∧ Below w.heap.size w w' := by
  have p1 := Up_nil w k x
  have p2 := Down_nil w k x
  have P3 := hid (fun W => Of_nil W k)
  have P4 := hid Sum_nil
  have P5 := hid (told_none 9)
  have P6 := hid awake_any
  go_enter Try.func6, Try.ntmps6
  go_wp2_with (first | (go_at_call 18; refine p1.mono ?_; rintro e w' ⟨rfl, rfl⟩) | (go_at_call 17; refine p2.mono ?_; rintro e w' ⟨rfl, rfl⟩) | (go_at_call 15; refine (P3.out _).mono ?_; rintro e w' ⟨rfl, rfl⟩) | (go_at_call 16; refine (P4.out _).mono ?_; rintro e w' ⟨rfl, rfl⟩) | (go_at_call 13; refine (P5.out _).mono ?_; rintro e w2 ⟨rfl, hb⟩) | (go_at_call 14; refine (P6.out _).mono ?_; rintro e w3 ⟨rfl, hb3⟩))
  go_ret
  exact ⟨rfl, hb.trans (hb3.mono hb.size)⟩
end Go.Proofs.Ytmmmjkmhlkkdkaa
