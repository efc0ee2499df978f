/-
  maps.Keys at the tally's map: each key comes once, in some order, till a round says no more.
-/
import Derived.Test.YtmmmjkmhlkkdkaaTlNil
import Derived.Maps.OwnIn
import Derived.Sort.MapsRangeIn
namespace Go.Proofs.Ytmmmjkmhlkkdkaa
open Go.ChangeShapes Go.WideShapes Go.ChangeAt Go.RowKit Go.Maps Go.Shelf
attribute [local go_sem] Oper.semAt_some

/-- Those that came: no key twice, each one of the list's, and not to come any more. -/
def CollU (l : TM) (left : Lit → Bool) (ss : List Int) : Prop := ss.Nodup ∧ ∀ x, x ∈ ss ↔ (x ∈ l.map (·.1) ∧ left (.int .u64 x) = false)
theorem CollU.start (l : TM) : CollU l (Maps.has (dat l)) [] := by
  refine ⟨List.nodup_nil, fun x => ⟨(fun h => by cases h), fun ⟨h1, h2⟩ => ?_⟩⟩
  obtain ⟨p, hp, rfl⟩ := List.mem_map.1 h1
  rw [has_mem hp] at h2
  cases h2
theorem CollU.step {l : TM} {left : Lit → Bool} {ss : List Int} {x c : Int} (h : CollU l left ss) (hl : left (.int .u64 x) = true) (hm : (x, c) ∈ l) : CollU l (fun z => left z && !z.sameKey (.int .u64 x)) (ss ++ [x]) := by
  refine ⟨?_, fun y => ?_⟩
  · rw [List.nodup_append]
    refine ⟨h.1, by simp, fun a ha b hb e => ?_⟩
    simp at hb
    subst hb; subst e
    have := ((h.2 a).1 ha).2
    rw [hl] at this; cases this
  · rw [List.mem_append, h.2 y]
    simp only [List.mem_singleton, same_u64]
    constructor
    · rintro (⟨h1, h2⟩ | rfl)
      · exact ⟨h1, by rw [h2]; rfl⟩
      · exact ⟨List.mem_map.2 ⟨_, hm, rfl⟩, by simp⟩
    · rintro ⟨h1, h2⟩
      by_cases e : y = x
      · exact .inr e
      · left
        refine ⟨h1, ?_⟩
        simpa [e] using h2
theorem keys_nodup {l : TM} (h : Rising l) : (l.map (·.1)).Nodup := by
  rw [List.Nodup, List.pairwise_map]
  exact h.imp (fun h e => by omega)
theorem CollU.perm {l : TM} {left : Lit → Bool} {ss : List Int} (h : CollU l left ss) (hr : Rising l) (hl : ∀ kl, left kl = false) : ss.Perm (l.map (·.1)) := by
  rw [List.perm_ext_iff_of_nodup h.1 (keys_nodup hr)]
  intro x
  rw [h.2 x, hl]
  simp

/-- A number of 64 bits without a sign. -/
def nk (x : Int) : Int := x % 18446744073709551616
theorem nk_bd (x : Int) : 0 ≤ nk x ∧ nk x ≤ 18446744073709551615 := by unfold nk; omega
theorem nk_id {x : Int} (h : 0 ≤ x ∧ x ≤ 18446744073709551615) : nk x = x := by unfold nk; omega
theorem Keys_in (n : Nat) (mb : Option Nat) (w : World) :
    CallsIn Fence.wide n Try.prog 38 #[.map mb] w fun e w' => e = .returned (.func (.func 52) #[] #[.pointer (some ⟨w.heap.size, 0, none⟩)]) ∧ w' = w.alloc (.cells #[.map mb] 54) := by
  refine callsIn_of_wp Try.func38 rfl trivial ?_ rfl
  simp only [Try.ntmps38, List.size_toArray, List.length_cons, List.length_nil, Nat.reduceAdd, Nat.reduceSub, Array.replicate_succ, Array.replicate_zero, List.push_toArray, List.append_toArray, List.nil_append, List.cons_append]
  gi_wp2
  go_ret
  exact ⟨rfl, rfl⟩

set_option maxRecDepth 100000 in
set_option maxHeartbeats 1000000 in
theorem keys1_in (n : Nat) (hn : 1 ≤ n) (l Bm b nn : Nat) (L : TM) (hr : Rising L) (J Jx : List Int → World → Prop)
    (hY : ∀ pre x W, J pre W → pre.length < L.length → YieldAt Fence.wide (n - 1) Try.prog l #[.int .u64 (nk x)] W fun e W' =>
      (e = .returned (.bool true) ∧ J (pre ++ [x]) W' ∧ KeepsWalks W W') ∨ (e = .returned (.bool false) ∧ Jx (pre ++ [x]) W'))
    (W : World) (hJ : AbidesFrom W.heap.size J) (hm : W.cell? ⟨Bm, 0, none⟩ = some (.map (some b))) (hown : W.ownsMap Try.prog 31 (plainElem (H := Unit) Try.prog 22) b nn (dat L)) (h0 : J [] W) :
    CallsIn Fence.wide n Try.prog 52 #[.func (.yield l) #[] #[], .pointer (some ⟨Bm, 0, none⟩)] W fun e W' => (∃ v, e = .returned v) ∧
      ((∃ ss : List Int, ss.Perm (L.map (·.1)) ∧ J ss W') ∨ (∃ pre : List Int, True ∧ Jx pre W')) := by
  refine callsIn_of_wp Try.func52 rfl trivial ?_ rfl
  simp only [Try.ntmps52, List.size_toArray, List.length_cons, List.length_nil, Nat.reduceAdd, Nat.reduceSub, Array.replicate_succ, Array.replicate_zero, List.push_toArray, List.append_toArray, List.nil_append, List.cons_append]
  gi_wp2_with (first
    | (gi_at_range; refine wpListIn_range_own _ rfl _ 54 rfl 31 22 law31 Try.underlying54 _ b nn _ rfl hown ?_; intro w0 hrg0 hg0 hs0))
  go_frame
  gi_loopw [3] (fun _ wr => ∃ (left : Lit → Bool) (cnt : Nat) (ss : List Int), wr.ranges Try.prog 31 (plainElem (H := Unit) Try.prog 22) b W.heap.size nn (dat L) left cnt ∧ ss.length + cnt ≤ L.length ∧ CollU L left ss ∧ J ss wr)
    (fun _ wr => wr.rangeLeft b W.heap.size)
  case atStart =>
    exact ⟨_, _, [], hrg0, by simp [dat, Maps.size], CollU.start L, hJ [] W w0 none h0 hg0 (fun r e => by cases e)⟩
  case round =>
    obtain ⟨left, cnt, ss, hrg, hcs, hC, hJs⟩ := hrel
    gi_wp2_with (first
      | (gi_at_next; refine wpListIn_next_ranges_ii _ rfl _ rfl 31 22 .u64 .u32 law31 Try.underlying31 Try.underlying22 b W.heap.size nn _ _ _ rfl hrg ?_ ?_))
    · intro hc0 hl0
      gi_wp2
      go_end0
      exact ⟨⟨_, rfl⟩, .inl ⟨ss, hC.perm hr hl0, hJs⟩⟩
    · intro x c w2 cnt2 hwx hwc hlk hat hrg2 hlt hg2 hs2 hen
      have hJ2 : J ss w2 := hJ ss wr w2 (some W.heap.size) hJs hg2 (fun r e => by cases e; exact ⟨Nat.le_refl _, hrg.iter_walk⟩)
      have hYx := hY ss x w2 hJ2 (by omega)
      rw [nk_id (bounds_u64 hwx)] at hYx
      obtain ⟨fn, tmps, assign, body, hy, hR⟩ := hYx
      have hmem := mem_of_at hat
      have hC2 := hC.step hlk hmem
      clear hs2 hat hmem
      gi_wp2
      refine hR.mono ?_
      rintro e W3 (⟨rfl, hJ3, hk3⟩ | ⟨rfl, hJx3⟩)
      · gi_wp2
        have hrg3 := hrg2.of_walks hk3
        go_roundw
        case rel => exact ⟨_, cnt2, ss ++ [x], hrg3, by simp; omega, hC2, hJ3⟩
        case measure => rw [hrg3.left_eq, hrg.left_eq]; exact hlt
      · gi_wp2
        refine bodyPost_ret (results_none rfl _ _ _) rfl ?_
        exact ⟨⟨_, rfl⟩, .inr ⟨ss ++ [x], trivial, hJx3⟩⟩
theorem keys_stops (n : Nat) (hn : 1 ≤ n) (Bm b nn : Nat) (L : TM) (hr : Rising L) (w : World) (hBm : Bm < w.heap.size) (hm : w.cell? ⟨Bm, 0, none⟩ = some (.map (some b))) (hown : w.ownsMap Try.prog 31 (plainElem (H := Unit) Try.prog 22) b nn (dat L)) :
    SeqStopsK Fence.wide n Try.prog 52 #[.pointer (some ⟨Bm, 0, none⟩)] (fun x : Int => #[.int .u64 (nk x)]) KeepsWalks (fun ss => ss.Perm (L.map (·.1))) (fun _ => True) L.length w := fun l J Jx W hW hJ _ hY h0 => by
  have hown' : W.ownsMap Try.prog 31 (plainElem (H := Unit) Try.prog 22) b nn (dat L) := by
    have hbl := hown.lt
    obtain ⟨es, clock, hb, Ft, hs, hD⟩ := hown
    exact ⟨es, clock, (hW.block b hbl).trans hb, Ft, hs, hD⟩
  exact keys1_in n hn l Bm b nn L hr J Jx hY W hJ ((hW.cell (p := ⟨Bm, 0, none⟩) hBm).trans hm) hown' h0
end Go.Proofs.Ytmmmjkmhlkkdkaa
