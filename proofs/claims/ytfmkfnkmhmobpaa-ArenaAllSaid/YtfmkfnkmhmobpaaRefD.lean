/-
  The contract of the plain twin's All.
-/
import Derived.Test.YtfmkfnkmhmobpaaRefC
namespace Go.Proofs.Ytfmkfnkmhmobpaa
open Go.ChangeShapes Go.WideShapes Go.ChangeAt Go.RowKit

/-- All: the handles of what is taken, in a row of its own. -/
def RAllPost (w : World) (A : Ar) (e : Ending) (w' : World) : Prop :=
  ∃ v, e = .returned v ∧ w'.ownsRow w.heap.size 34 1 v (allF 0 A.L).length ((allF 0 A.L).map (Value.int .u64)) ∧ Below w.heap.size w w'
def RAllInv (w0 : World) (A : Ar) (q : Nat) (v : Value) (w : World) : Prop := w.ownsRow w0.heap.size 34 1 v (allF 0 (A.L.take q)).length ((allF 0 (A.L.take q)).map (Value.int .u64)) ∧ Below w0.heap.size w0 w
set_option maxHeartbeats 1000000 in
set_option maxRecDepth 100000 in
theorem RAll_any (S : Nat → Prop) (w : World) (p : Nat) (A : Ar) (h : RInS S w p A) : Calls Try.prog 16 #[.pointer (some ⟨p, 0, none⟩)] w (RAllPost w A) := by
  obtain ⟨cv, fv, R, h1, h2, h3, h4, h5, h6⟩ := h
  obtain ⟨a, k, hcv⟩ := h1.shape
  have hRl : R.length ≤ 65536 := by have := h1.len; have := h2.len; have := h2.m2; omega
  have hlen := h1.len
  obtain ⟨i0, hi, hz0, hz1, hz2⟩ := info_parts info34
  have hi' := hid hi
  have hz0' := hid hz0
  have hz1' := hid hz1
  have hz2' := hid hz2
  obtain ⟨n, hn⟩ : ∃ n, n = R.length := ⟨_, rfl⟩
  have hplt := h1.lt
  have hcvb : ∀ q, cv.ownBlock = some q → q < w.heap.size := fun q hq => (h1.hc.lt q hq).2
  rw [← hn] at hcv hRl hlen
  have HN := hid hn
  have HW := hid h1
  have HA := hid h2
  have HCV := hid hcv
  have HLN := hid hlen
  have HCB := hid hcvb
  clear hi hz0 hz1 hz2 hn hcv h1 h2 h3 h4 h5 h6 hlen hcvb
  go_enter Try.func16, Try.ntmps16
  go_wp2
  go_loopw [3, 4] (fun v i wr => ∃ q : Nat, q ≤ n ∧ i = .int .i64 q ∧ RAllInv w A q v wr) (fun _ i _ => n - (intOf i).toNat)
  case atStart => exact ⟨0, by omega, rfl, World.ownsRow_nil _ _ _ _, Below.refl _ _⟩
  case round =>
    obtain ⟨q, hq1, rfl, hrow, hB⟩ := hrel
    have c2 : wr.cell? ⟨p, 2, none⟩ = some (.slice a n k) := by rw [hB.cell (p := ⟨p, 2, none⟩) hplt, HW.out.c2, HCV.out]
    have HRW := hid hrow
    have HBB := hid hB
    by_cases hql : q < n
    · have hqR : q < R.length := by rw [← HN.out]; exact hql
      have hr : R[q]? = some R[q] := List.getElem?_eq_getElem hqR
      generalize R[q] = r at hr
      obtain ⟨g, k', hcv2⟩ := HW.out.form hr
      have hgb : g < w.heap.size := HCB.out g (by rw [hcv2]; rfl)
      have g1 := HW.out.at hr hcv2 1 (by omega)
      have g2 := HW.out.at hr hcv2 2 (by omega)
      rw [← hB.cell (p := ⟨g, q * 3 + 1, none⟩) hgb] at g1
      rw [← hB.cell (p := ⟨g, q * 3 + 2, none⟩) hgb] at g2
      rw [HCV.out, ← HN.out] at hcv2
      simp only [Value.slice.injEq] at hcv2
      obtain ⟨rfl, -, rfl⟩ := hcv2
      have hs : A.L[q]? = some (toSpot r) := by rw [HW.out.hR]; simp [hr]
      have hgen := (HA.out.gen q _ hs).2
      have hql2 : q < A.L.length := (List.getElem?_eq_some_iff.1 hs).1
      have htk : allF 0 (A.L.take (q + 1)) = allF 0 (A.L.take q) ++ (if (toSpot r).t then [hand q (toSpot r).g] else []) := by
        rw [List.take_succ_eq_append_getElem hql2, allF_snoc]
        have e1 : A.L[q] = toSpot r := by
          have := List.getElem?_eq_getElem hql2
          rw [hs] at this; exact (Option.some.inj this).symm
        have e2 : 0 + (A.L.take q).length = q := by simp; omega
        rw [e1, e2]
      have hal : (allF 0 (A.L.take q)).length ≤ 65536 := by
        rw [allF_len]
        have := cnt_le (A.L.take q)
        have : (A.L.take q).length ≤ q := List.length_take_le _ _
        omega
      obtain ⟨rx, rg, rs⟩ := r
      simp only [RSpot.cells, List.getElem?_cons_succ, List.getElem?_cons_zero] at g1 g2
      simp only [toSpot] at hgen htk
      have hgb2 : rg ≤ 4294967295 := hgen
      have HT := hid htk
      clear hs hr hqR hgen htk hql2 hrow hB
      have hh := fun W => Handle_any q rg W (by omega) hgb2
      by_cases hst : rs = 1
      · subst hst
        obtain ⟨hv, hhv⟩ : ∃ hv, hv = hand q rg := ⟨_, rfl⟩
        rw [← hhv] at hh
        have HV := hid hhv
        have HH := hid hh
        clear hh hhv
        obtain ⟨n3, hn3⟩ : ∃ n3, n3 = (allF 0 (A.L.take q)).length := ⟨_, rfl⟩
        have HR3 := HRW.out
        rw [← hn3] at HR3 hal
        have HR4 := hid HR3
        have HN3 := hid hn3
        obtain ⟨a3, k3, hv3⟩ : ∃ a k, u3 = .slice a n3 k := by
          rcases HR3.2 with ⟨e1, e2⟩ | ⟨g, cap, _, e1, _⟩
          · exact ⟨none, 0, by rw [e1, e2]⟩
          · exact ⟨_, cap, e1⟩
        subst hv3
        clear HR3 hn3
        go_wp2_with (first | (go_at_call 28; refine (HH.out _).mono ?_; rintro e w' ⟨rfl, rfl⟩) | (at_builtin; refine wpList_append_lies _ (o := ⟨some 35, _, _, _, _, _⟩) rfl (.tmp 23) (.tmp 34) 37 rfl w.heap.size 34 i0 (.int .u64 0) 1 8 Try.underlying37 hi'.out hz0'.out hz1'.out hz2'.out rfl (by decide) (.slice a3 n3 k3) n3 _ rfl (HR4.out.alloc _) ⟨wr.heap.size, 0, none⟩ 1 1 [.int .u64 hv] rfl rfl (one_news _ _ _ _ rfl) (by simp [Value.oneCell']) (by decide) (by unfold maxLen; omega) (by omega) (by have := HBB.out.size; simp; omega) (wr.heap.size + 1) (by simp) ?_; intro g5 k5 w5 hown5 hgrow5 hat5 hlt5; have HO5 := hid hown5; have HG5 := hid hgrow5; clear hown5 hgrow5 hat5))
        have hsz := HBB.out.size
        go_roundw
        case rel =>
          refine ⟨q + 1, by omega, by go_num, ?_, (HBB.out.alloc hsz _).grown HG5.out (by simp; omega) (fun j hj => (HR4.out.lt j hj).1)⟩
          rw [HT.out]
          simp only [decide_true, if_true, List.length_append, List.length_singleton, List.map_append, List.map_cons, List.map_nil]
          rw [← HN3.out, ← HV.out]
          exact HO5.out
        case measure => simp [intOf]; omega
      · have hb : (rs == 1) = false := by simpa using hst
        have HT2 : allF 0 (A.L.take (q + 1)) = allF 0 (A.L.take q) := by
          have h9 := HT.out
          simpa [toSpot, hst] using h9
        have HT3 := hid HT2
        clear hst hh HT HT2
        go_wp2
        go_roundw
        case rel => exact ⟨q + 1, by omega, by go_num, by rw [HT3.out]; exact HRW.out, HBB.out⟩
        case measure => simp [intOf]; omega
    · obtain rfl : q = n := by omega
      have ht : A.L.take q = A.L := List.take_of_length_le (by rw [HLN.out]; exact Nat.le_refl _)
      have HT := hid ht
      clear ht hrow hB
      go_wp2
      go_ret
      have := HRW.out
      rw [HT.out] at this
      exact ⟨_, rfl, this, HBB.out⟩
end Go.Proofs.Ytfmkfnkmhmobpaa
