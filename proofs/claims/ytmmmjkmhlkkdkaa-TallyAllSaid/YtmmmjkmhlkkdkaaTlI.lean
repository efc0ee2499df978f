/-
  The contract of a tally's iterator.
-/
import Derived.Test.YtmmmjkmhlkkdkaaTlR
namespace Go.Proofs.Ytmmmjkmhlkkdkaa
open Go.ChangeShapes Go.WideShapes Go.ChangeAt Go.RowKit Go.Maps Go.Shelf
attribute [local go_sem] Oper.semAt_some

/-- What a loop's body keeps: the rows of entries. -/
def K74 (W W' : World) : Prop := ∀ (k : Nat) (cs : Array Value), W.heap[k]? = some (.cells cs 74 (0, 0)) → W'.heap[k]? = some (.cells cs 74 (0, 0))
theorem K74.t {A B C : World} (h : K74 A B) (k : K74 B C) : K74 A C := fun j cs hj => k j cs (h j cs hj)
theorem K74.b (W : World) (l : Nat) (o o' : Obj) (h : W.heap[l]? = some o) (hc : o.isCells = false) : K74 W (W.putObj l o') := fun k cs hk => by
  have hne : k ≠ l := fun e => by subst e; rw [hk] at h; cases h; cases hc
  rw [World.putObj_heap_other hne]; exact hk
theorem K74.owns {W W' : World} {B : Nat} {v : Value} {n : Nat} {xs : List Value} (h : K74 W W') (ho : W.ownsRow B 74 2 v n xs) : W'.ownsRow B 74 2 v n xs := by
  refine ⟨ho.1, ?_⟩
  rcases ho.2 with e | ⟨g, cap, cur, e, hb, hg, rest⟩
  · exact .inl e
  · exact .inr ⟨g, cap, cur, e, hb, h g cur hg, rest⟩
theorem encE_at (L : TM) (q j : Nat) (x : Int × Int) (hx : L[q]? = some x) (hj : j < 2) : (L.flatMap encE)[q * 2 + j]? = (encE x)[j]? := by
  induction L generalizing q with
  | nil => cases hx
  | cons a r ih =>
    rw [List.flatMap_cons]
    cases q with
    | zero =>
      simp at hx; subst hx
      rw [List.getElem?_append_left (by simp [encE]; omega)]
      simp
    | succ q =>
      rw [List.getElem?_append_right (by simp [encE]; omega)]
      have := ih q (by simpa using hx)
      rw [← this]
      congr 1
      simp [encE]
      omega
theorem rising_any (w : World) (p b nn : Nat) (most : Int) (L : TM) (hT : TlW w p b nn most L) (hN : nn ≤ 1000000) : Calls Try.prog 33 #[.pointer (some ⟨p, 0, none⟩)] w (RisePost w L) :=
  (callsIn_wide (n := 3)).1 (rising_in 3 (by omega) w p b nn most L hT hN)
def IterPost (L : TM) (J Jx : List (Int × Int) → World → Prop) (e : Ending) (W' : World) : Prop := (∃ v, e = .returned v) ∧ ((∃ ys, ys = L ∧ J ys W') ∨ (∃ pre, pre <+: L ∧ Jx pre W'))
set_option maxRecDepth 100000 in
set_option maxHeartbeats 1000000 in
theorem iter_any (n l Bn p b nn : Nat) (most : Int) (L : TM) (J Jx : List (Int × Int) → World → Prop)
    (hY : ∀ pre (x : Int × Int) W, J pre W → pre.length < L.length → YieldAt Fence.wide (n - 1) Try.prog l #[.int .u64 x.1, .int .u32 x.2] W fun e W' =>
      (e = .returned (.bool true) ∧ J (pre ++ [x]) W' ∧ K74 W W') ∨ (e = .returned (.bool false) ∧ Jx (pre ++ [x]) W'))
    (W : World) (hBn : W.cell? ⟨Bn, 0, none⟩ = some (.pointer (some ⟨p, 0, none⟩))) (hT : TlW W p b nn most L) (hN : nn ≤ 1000000) (hJ : ∀ s W W', J s W → Below W.heap.size W W' → J s W') (h0 : J [] W) :
    CallsIn Fence.wide n Try.prog 32 #[.func (.yield l) #[] #[], .pointer (some ⟨Bn, 0, none⟩)] W (IterPost L J Jx) := by
  have hr := hid (rising_any W p b nn most L hT hN)
  have hlen := hT.length
  have HY := hid hY
  have HJ := hid hJ
  have H0 := hid h0
  clear hY hJ h0 hT
  obtain ⟨N, hN'⟩ : ∃ N, N = L.length := ⟨_, rfl⟩
  have HN := hid hN'
  rw [← hN'] at hlen
  clear hN'
  refine callsIn_of_wp Try.func32 rfl trivial ?_ rfl
  simp only [Try.ntmps32, List.size_toArray, List.length_cons, List.length_nil, Nat.reduceAdd, Nat.reduceSub, Array.replicate_succ, Array.replicate_zero, List.push_toArray, List.append_toArray, List.nil_append, List.cons_append]
  gi_wp2
  refine ⟨trivial, (fun h => by cases h), (callsIn_wide.2 hr.out).mono ?_⟩
  rintro e W1 ⟨v1, rfl, hrow, hb1⟩
  rw [← HN.out] at hrow
  obtain ⟨va, vk, hv1⟩ : ∃ a k, v1 = .slice a N k := by
    rcases hrow.2 with ⟨e1, e2⟩ | ⟨g, cap, _, e1, _⟩
    · exact ⟨none, 0, by rw [e1, e2]⟩
    · exact ⟨_, cap, e1⟩
  subst hv1
  have J1 := hid (HJ.out [] W W1 H0.out hb1)
  have HR := hid hrow
  clear hrow hb1 hr
  gi_wp2
  gi_loopw [10] (fun i wr => ∃ q : Nat, q ≤ N ∧ i = .int .i64 q ∧ RowKit.Hid (J (L.take q) wr) ∧ RowKit.Hid (wr.ownsRow W.heap.size 74 2 (.slice va N vk) N (L.flatMap encE))) (fun i _ => N - (intOf i).toNat)
  case atStart => exact ⟨0, Nat.zero_le _, rfl, hid (by simpa using J1.out), HR⟩
  case round =>
    obtain ⟨q, hq, rfl, HJq, HRq⟩ := hrel
    by_cases hql : q < N
    · have hqL : q < L.length := by rw [← HN.out]; exact hql
      have hs : L[q]? = some L[q] := List.getElem?_eq_getElem hqL
      have htk : L.take (q + 1) = L.take q ++ [L[q]] := by rw [List.take_succ_eq_append_getElem hqL]
      generalize L[q] = s at hs htk
      obtain ⟨g, k', hvf, _⟩ := HRq.out.form (by omega)
      simp only [Value.slice.injEq] at hvf
      obtain ⟨rfl, -, rfl⟩ := hvf
      have g0 : wr.cell? ⟨g, q * 2, none⟩ = some (.int .u64 s.1) := by
        rw [HRq.out.cellAt (q * 2) (by omega)]; exact encE_at L q 0 s hs (by omega)
      have g1 : wr.cell? ⟨g, q * 2 + 1, none⟩ = some (.int .u32 s.2) := by
        rw [HRq.out.cellAt (q * 2 + 1) (by omega)]; exact encE_at L q 1 s hs (by omega)
      have HT := hid htk
      clear hs htk hqL
      obtain ⟨sx, sg⟩ := s
      simp only at g0 g1
      have hB2 : Below wr.heap.size wr (wr.alloc (.cells #[.int .u64 sx, .int .u32 sg] 74)) := (Below.refl _ _).alloc (Nat.le_refl _) _
      have J2 := hid (HJ.out _ wr _ HJq.out hB2)
      have R2 := hid (HRq.out.alloc (.cells #[.int .u64 sx, .int .u32 sg] 74))
      have hlen2 : (L.take q).length < L.length := by rw [← HN.out]; simp; omega
      have hy0 := HY.out (L.take q) (sx, sg) _ J2.out hlen2
      obtain ⟨fn, tmps, assign, body, hy, hRd⟩ := hy0
      dsimp only at hy
      have HRD := hid hRd
      clear hRd hB2 hlen2
      gi_wp2
      refine ⟨(fun h => by cases h), HRD.out.mono ?_⟩
      rintro e W3 (⟨rfl, hJ3, hk3⟩ | ⟨rfl, hJx3⟩)
      · have J3 := hid hJ3
        have R3 := hid (hk3.owns R2.out)
        clear hJ3 hk3
        gi_wp2
        go_roundw
        case rel => exact ⟨q + 1, by omega, by go_num, by rw [HT.out]; exact J3, R3⟩
        case measure => simp [intOf]; omega
      · have J3 := hid hJx3
        clear hJx3
        gi_wp2
        refine bodyPost_ret (results_none rfl _ _ _) rfl ?_
        exact ⟨⟨_, rfl⟩, .inr ⟨_, (by have h := List.take_prefix (q + 1) L; rw [HT.out] at h; exact h), J3.out⟩⟩
    · obtain rfl : q = N := by omega
      have ht : L.take q = L := List.take_of_length_le (by rw [← HN.out]; exact Nat.le_refl _)
      have HT := hid ht
      clear ht
      gi_wp2
      go_end0
      exact ⟨⟨_, rfl⟩, .inl ⟨_, rfl, by have := HJq.out; rw [HT.out] at this; exact this⟩⟩
end Go.Proofs.Ytmmmjkmhlkkdkaa
