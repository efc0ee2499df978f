/-
  maps.All at the leases' map; the contract of rising.
-/
import Derived.Test.YtbdhjkdojgdhbaaLvF
import Derived.Test.YtbdhjkdojgdhbaaLvD
import Derived.Test.YtbdhjkdojgdhbaaLsL
import Derived.RangeFuncNested
import Derived.RangeFuncBound
import Derived.RangeFuncCalls
import Derived.RangeFuncLeaves
import Derived.RangeFuncFrom
import Derived.RangeFuncBox
import Derived.Maps.OwnIn
import Derived.Sort.MapsRangeIn
namespace Go.Proofs.Ytbdhjkdojgdhbaa
open Go Go.ChangeShapes Go.WideShapes Go.ChangeAt Go.RowKit Go.Maps Go.Shelf
attribute [local go_sem] Oper.semAt_some

/-- Those that came: none twice, each one in it, and not to come any more. -/
def CollA (l : List On) (left : Lit → Bool) (ss : List On) : Prop := ss.Nodup ∧ ∀ x, x ∈ ss ↔ (x ∈ l ∧ left (.int .u64 x.1) = false)
theorem CollA.start (l : List On) : CollA l (Maps.has (datO l)) [] := by
  refine ⟨List.nodup_nil, fun x => ⟨(fun h => by cases h), fun ⟨h1, h2⟩ => ?_⟩⟩
  rw [datO_has, show hasK x.1 l = true from List.any_eq_true.2 ⟨_, h1, by simp⟩] at h2
  cases h2
theorem CollA.step {l : List On} (hr : Rise l) {left : Lit → Bool} {ss : List On} {x c : Int} (h : CollA l left ss) (hl : left (.int .u64 x) = true) (hm : (x, c) ∈ l) : CollA l (strike left x) (ss ++ [(x, c)]) := by
  refine ⟨?_, fun y => ?_⟩
  · rw [List.nodup_append]
    refine ⟨h.1, by simp, fun a ha b hb e => ?_⟩
    simp at hb
    subst hb; subst e
    have := ((h.2 (x, c)).1 ha).2
    rw [hl] at this; cases this
  · rw [List.mem_append, h.2 y, strike_at]
    simp only [List.mem_singleton]
    constructor
    · rintro (⟨h1, h2⟩ | rfl)
      · exact ⟨h1, by rw [h2]; rfl⟩
      · exact ⟨hm, by simp⟩
    · rintro ⟨h1, h2⟩
      by_cases e : y.1 = x
      · exact .inr (rise_key hr h1 hm e)
      · exact .inl ⟨h1, by simpa [e] using h2⟩
theorem CollA.perm {l : List On} (hr : Rise l) {left : Lit → Bool} {ss : List On} (h : CollA l left ss) (hl : ∀ q, left q = false) : ss.Perm l := by
  rw [List.perm_ext_iff_of_nodup h.1 (List.Pairwise.imp (fun h e => by rw [e] at h; omega) hr)]
  intro x
  rw [h.2 x, hl]
  simp
theorem mAll_in (n : Nat) (mb : Option Nat) (w : World) :
    CallsIn Fence.wide n Try.prog 35 #[.map mb] w fun e w' => e = .returned (.func (.func 50) #[] #[.pointer (some ⟨w.heap.size, 0, none⟩)]) ∧ w' = w.alloc (.cells #[.map mb] TMp) := by
  refine callsIn_of_wp Try.func35 rfl trivial ?_ rfl
  simp only [Try.ntmps35, List.size_toArray, List.length_cons, List.length_nil, Nat.reduceAdd, Nat.reduceSub, Array.replicate_succ, Array.replicate_zero, List.push_toArray, List.append_toArray, List.nil_append, List.cons_append]
  gi_wp2
  go_ret
  exact ⟨rfl, rfl⟩
set_option maxRecDepth 100000 in
set_option maxHeartbeats 1000000 in
theorem mAll1_in (n : Nat) (hn : 1 ≤ n) (l Bm b nn : Nat) (L : List On) (hr : Rise L) (J Jx : List On → World → Prop)
    (hY : ∀ pre (x : On) W, J pre W → pre.length < L.length → YieldAt Fence.wide (n - 1) Try.prog l (encO x) W fun e W' =>
      (e = .returned (.bool true) ∧ J (pre ++ [x]) W' ∧ KeepsWalks W W') ∨ (e = .returned (.bool false) ∧ Jx (pre ++ [x]) W'))
    (W : World) (hJ : AbidesFrom W.heap.size J) (hm : W.cell? ⟨Bm, 0, none⟩ = some (.map (some b))) (hown : W.ownsMap Try.prog TU (plainElem (H := Unit) Try.prog 3) b nn (datO L)) (h0 : J [] W) :
    CallsIn Fence.wide n Try.prog 50 #[.func (.yield l) #[] #[], .pointer (some ⟨Bm, 0, none⟩)] W fun e W' => (∃ v, e = .returned v) ∧
      ((∃ ss : List On, ss.Perm L ∧ J ss W') ∨ (∃ pre : List On, True ∧ Jx pre W')) := by
  refine callsIn_of_wp Try.func50 rfl trivial ?_ rfl
  simp only [Try.ntmps50, List.size_toArray, List.length_cons, List.length_nil, Nat.reduceAdd, Nat.reduceSub, Array.replicate_succ, Array.replicate_zero, List.push_toArray, List.append_toArray, List.nil_append, List.cons_append]
  gi_wp2_with (first
    | (gi_at_range; refine wpListIn_range_own _ rfl _ TMp rfl TU 3 lawUi Try.underlying55 _ b nn _ rfl hown ?_; intro w0 hrg0 hg0 hs0))
  try go_frame
  gi_loopw [3] (fun _ wr => ∃ (left : Lit → Bool) (cnt : Nat) (ss : List On), wr.ranges Try.prog TU (plainElem (H := Unit) Try.prog 3) b W.heap.size nn (datO L) left cnt ∧ ss.length + cnt ≤ L.length ∧ CollA L left ss ∧ J ss wr)
    (fun _ wr => wr.rangeLeft b W.heap.size)
  case atStart =>
    exact ⟨_, _, [], hrg0, by simp [datO_size], CollA.start L, hJ [] W w0 none h0 hg0 (fun r e => by cases e)⟩
  case round =>
    obtain ⟨left, cnt, ss, hrg, hcs, hC, hJs⟩ := hrel
    gi_wp2_with (first
      | (gi_at_next; refine wpListIn_next_ranges_ii _ rfl _ rfl TU 3 .u64 .i64 lawUi Try.underlying31 Try.underlying3 b W.heap.size nn _ _ _ rfl hrg ?_ ?_))
    · intro hc0 hl0
      gi_wp2
      go_end0
      exact ⟨⟨_, rfl⟩, .inl ⟨ss, hC.perm hr hl0, hJs⟩⟩
    · intro x c w2 cnt2 hwx hwc hlk hat hrg2 hlt hg2 hs2 hen
      have hJ2 : J ss w2 := hJ ss wr w2 (some W.heap.size) hJs hg2 (fun r e => by cases e; exact ⟨Nat.le_refl _, hrg.iter_walk⟩)
      have hYx := hY ss (x, c) w2 hJ2 (by omega)
      simp only [encO] at hYx
      obtain ⟨fn, tmps, assign, body, hy, hR⟩ := hYx
      have hmem := mem_datO hat
      have hC2 := hC.step hr hlk hmem
      clear hs2 hat hmem
      gi_wp2
      refine hR.mono ?_
      rintro e W3 (⟨rfl, hJ3, hk3⟩ | ⟨rfl, hJx3⟩)
      · gi_wp2
        have hrg3 := hrg2.of_walks hk3
        go_roundw
        case rel => exact ⟨_, cnt2, ss ++ [(x, c)], hrg3, by simp; omega, hC2, hJ3⟩
        case measure => rw [hrg3.left_eq, hrg.left_eq]; exact hlt
      · gi_wp2
        refine bodyPost_ret (results_none rfl _ _ _) rfl ?_
        exact ⟨⟨_, rfl⟩, .inr ⟨ss ++ [(x, c)], trivial, hJx3⟩⟩
theorem mAll_stops (n : Nat) (hn : 1 ≤ n) (Bm b nn : Nat) (L : List On) (hr : Rise L) (w : World) (hBm : Bm < w.heap.size) (hm : w.cell? ⟨Bm, 0, none⟩ = some (.map (some b))) (hown : w.ownsMap Try.prog TU (plainElem (H := Unit) Try.prog 3) b nn (datO L)) :
    SeqStopsK Fence.wide n Try.prog 50 #[.pointer (some ⟨Bm, 0, none⟩)] encO KeepsWalks (fun ss => ss.Perm L) (fun _ => True) L.length w := fun l J Jx W hW hJ _ hY h0 => by
  have hown' : W.ownsMap Try.prog TU (plainElem (H := Unit) Try.prog 3) b nn (datO L) := by
    have hbl := hown.lt
    obtain ⟨es, clock, hb, Ft, hs, hD⟩ := hown
    exact ⟨es, clock, (hW.block b hbl).trans hb, Ft, hs, hD⟩
  exact mAll1_in n hn l Bm b nn L hr J Jx hY W hJ ((hW.cell (p := ⟨Bm, 0, none⟩) hBm).trans hm) hown' h0
end Go.Proofs.Ytbdhjkdojgdhbaa
