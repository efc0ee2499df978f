/-
  The laws of layer 1: what GuidParses comes to.
-/
import Derived.Test.YtjmbpjbeljeglaaLaw1
namespace Go.Proofs.Ytjmbpjbeljeglaa
open Go Go.ChangeShapes Go.WideShapes Go.ChangeAt Go.RowKit

/-- A block stays while another one is made behind it and filled. -/
theorem heap_two {w : World} {b : Nat} {x : Obj} (h : w.heap[b]? = some x) (cs ds : Array Value) (t : TypeId) : ((w.alloc (.cells cs t)).setRow w.heap.size ds).heap[b]? = some x := by
  have hlt := lt_of_heap h
  rw [setRow_other _ _ _ _ (by omega), heap_alloc_old _ _ hlt]; exact h
set_option maxHeartbeats 1000000 in
theorem Parses_any (s : ByteArray) (w : World) (hsz : s.size ≤ maxLen) : Calls Try.prog 4 #[.string s] w fun e w' => e = .returned (.bool true) ∧ Below w.heap.size w w' := by
  have hv : ∃ (g : List Int) (k : Int) (b : Bool), parsV (sI s) = .tuple #[.agg (u8s g), .int .i64 k] ∧ refV (sI s) = .tuple #[.agg (u8s g), .bool b] ∧ IsG g ∧ ((k = 5 ∧ b = false) ∨ (k = 0 ∧ b = true)) := by
    cases hp : pars (sI s) with
    | none => exact ⟨g0, 5, false, parsV_none hp, refV_none hp, zero_isG, .inl ⟨rfl, rfl⟩⟩
    | some g => exact ⟨g, 0, true, parsV_some hp, refV_some hp, ((pars_iff _ _).1 hp).1, .inr ⟨rfl, rfl⟩⟩
  obtain ⟨g, k, b, h1, h2, hg, hkb⟩ := hv
  have Hi : RowKit.Hid ((Try.prog.info? 23).map (·.size) = some (u8s g).size) := hid (by rw [u8s_size, hg.len]; exact infoG)
  have Hl : RowKit.Hid ((u8s g0).size = (u8s g).size) := hid (by rw [u8s_size, u8s_size, hg.len]; rfl)
  have hq : ∀ W, (Op.equalIn 10000 23 (.agg (u8s g)) (.agg (u8s g))).run Try.prog W = .ok true W := fun W => by rw [eq_g g g hg.len hg.len W]; simp
  have H1 := hid h1
  have H2 := hid h2
  clear h1 h2
  rcases hkb with ⟨rfl, rfl⟩ | ⟨rfl, rfl⟩
  all_goals
    go_enter Try.func4, Try.ntmps4
    go_wp2_with fail
    refine (Parse_any _ _).mono ?_
    rintro e w1 ⟨rfl, hb1⟩
    rw [H1.out]
    have B1 := hid hb1
    have hs1 := hb1.size
    clear hb1
    go_wp2_with ((with_reducible refine at_op ⟨none, .store 23 (.tmp 3) (.tmp 10), _, _, _, _⟩ ?_); refine wpList_store_row rfl 23 _ _ rfl w1.heap.size (u8s g) rfl rfl 23 (u8s g0) (heap_alloc_new _ _) Hi.out Hl.out (u8s_one _) ?_)
    refine (refParse_any _ _ hsz).mono ?_
    rintro e w2 ⟨rfl, hb2⟩
    rw [H2.out]
    have hh : w2.heap[w1.heap.size]? = some (.cells (u8s g) 23 (0, 0)) := by
      rw [hb2.block _ (by simp)]; exact setRow_heap _ _ _ _ 23 (0, 0) (heap_alloc_new _ _)
    have hlt := lt_of_heap hh
    have HH := hid (heap_two hh (u8s g0) (u8s g) 23)
    have B2 := hid (below_on (below_setRow (B1.out.alloc hs1 _) _ _ hs1) hb2)
    have hs2 := B2.out.size
    clear hb2 hh
    go_wp2_with (first
      | ((with_reducible refine at_op ⟨none, .store 23 (.tmp 5) (.tmp 15), _, _, _, _⟩ ?_); refine wpList_store_row rfl 23 _ _ rfl w2.heap.size (u8s g) rfl rfl 23 (u8s g0) (heap_alloc_new _ _) Hi.out Hl.out (u8s_one _) ?_)
      | ((with_reducible refine at_op ⟨some 17, _, _, _, _, _⟩ ?_); refine wpList_load_row rfl 23 _ rfl w1.heap.size rfl 23 (u8s g) (0, 0) _ HH.out Try.underlying23 rfl Hi.out ?_)
      | ((with_reducible refine at_op ⟨some 18, _, _, _, _, _⟩ ?_); refine wpList_load_row rfl 23 _ rfl w2.heap.size rfl 23 (u8s g) (0, 0) _ (setRow_heap _ _ _ _ 23 (0, 0) (heap_alloc_new _ _)) Try.underlying23 rfl Hi.out ?_))
    refine (awake_any _).mono ?_
    rintro e w3 ⟨rfl, hb3⟩
    have B3 := hid (below_on (below_setRow (B2.out.alloc hs2 _) _ _ hs2) hb3)
    clear hb3
    go_wp2
    go_ret
    exact ⟨rfl, B3.out⟩
end Go.Proofs.Ytjmbpjbeljeglaa
