/-
  The plain twin's New, At, Leave.
-/
import Derived.Test.YtbdhjkdojgdhbaaLsA
namespace Go.Proofs.Ytbdhjkdojgdhbaa
open Go Go.ChangeShapes Go.WideShapes Go.ChangeAt Go.RowKit

section
variable {w w' : World} {S fp : Nat → Prop} {p : Nat} {z : Lz} {lv : Value}
/-- One of them, read. -/
theorem RlW.at_ (h : RlW w S p z lv) {i : Nat} {x : On} (hx : z.l[i]? = some x) : ∃ g c, lv = .slice (some ⟨g, 0, none⟩) z.l.length c ∧ AtL w g (i * 2) (onc x) ∧ w.cell? ⟨g, i * 2, none⟩ = some (.int .u64 x.1) ∧ w.cell? ⟨g, i * 2 + 1, none⟩ = some (.int .i64 x.2) := by
  have hi := (List.getElem?_eq_some_iff.1 hx).1
  obtain ⟨g, c, e, _⟩ := h.row.form (by omega)
  have hr := h.row
  rw [e] at hr
  have ha := own_at hr hx
  exact ⟨g, c, e, ha, ha 0 _ rfl, ha 1 _ rfl⟩
set_option maxRecDepth 100000 in
set_option maxHeartbeats 2000000 in
theorem RAt_any (h : RlW w S p z lv) (k : Int) (hl : z.l.length ≤ 100000) : Calls Try.prog 13 #[.pointer (some ⟨p, 0, none⟩), .int .u64 k] w fun e w' => e = .returned (iv (idxK k z.l)) ∧ w = w' := by
  obtain ⟨a, c, hlv⟩ := own_form h.row
  obtain ⟨n, hn⟩ : ∃ n, n = z.l.length := ⟨_, rfl⟩
  have c2 := h.c2
  rw [hlv, ← hn] at c2
  rw [← hn] at hl
  have HH := hid h
  have HN := hid hn
  have HLV := hid hlv
  clear h hn hlv
  go_enter Try.func13, Try.ntmps13
  go_wp2
  go_loopw [5] (fun i wr => ∃ q : Nat, q ≤ n ∧ i = .int .i64 q ∧ wr = w ∧ RowKit.Hid (∀ (j : Nat) (y : On), j < q → z.l[j]? = some y → y.1 ≠ k)) (fun i _ => n - (intOf i).toNat)
  case atStart => exact ⟨0, Nat.zero_le _, rfl, rfl, hid (fun j y h => by omega)⟩
  case round =>
    obtain ⟨q, hq, rfl, rfl, HK⟩ := hrel
    by_cases hqn : q < n
    · have hx := List.getElem?_eq_getElem (l := z.l) (i := q) (by rw [← HN.out]; exact hqn)
      generalize z.l[q]'(by rw [← HN.out]; exact hqn) = x at hx
      obtain ⟨g, c', hlv, _, e0, _⟩ := HH.out.at_ hx
      have e := HLV.out
      rw [hlv] at e
      simp only [Value.slice.injEq] at e
      obtain ⟨rfl, -, rfl⟩ := e
      have HX := hid hx
      clear hx hlv
      by_cases hk : x.1 = k
      · have d1 : (x.1 == k) = true := by simpa using hk
        have HR := hid (idx_step HX.out HK.out hk)
        clear hk
        go_wp2
        go_ret
        exact ⟨by rw [HR.out]; rfl, rfl⟩
      · have d1 : (x.1 == k) = false := by simpa using hk
        have HK2 := hid (show ∀ (j : Nat) (y : On), j < q + 1 → z.l[j]? = some y → y.1 ≠ k from fun j y hj hy => by
          by_cases hjq : j < q
          · exact HK.out j y hjq hy
          · obtain rfl : j = q := by omega
            rw [HX.out] at hy
            cases hy
            exact hk)
        clear hk
        go_wp2
        go_roundw
        case rel => exact ⟨q + 1, by omega, by go_num, trivial, HK2⟩
        case measure => simp [intOf]; omega
    · obtain rfl : n = q := by omega
      have HR := hid (idx_end (fun j y hy => HK.out j y (by have := (List.getElem?_eq_some_iff.1 hy).1; have := HN.out; omega) hy))
      clear hqn
      go_wp2
      go_ret
      exact ⟨by rw [HR.out]; rfl, rfl⟩
end
/-- New. -/
theorem RNewL_any (w : World) (a b : Int) : Calls Try.prog 8 #[iv a, iv b] w fun e w' => Below w.heap.size w w' ∧
    (if 1 ≤ a ∧ a ≤ 1000 ∧ 1 ≤ b ∧ b ≤ 1000 then ∃ p S lv, e = .returned (.pointer (some ⟨p, 0, none⟩)) ∧ (∀ k, S k → w.heap.size ≤ k) ∧ RlW w' S p ⟨a * b, 0, []⟩ lv else e = .returned (.pointer none)) := by
  by_cases h : 1 ≤ a ∧ a ≤ 1000 ∧ 1 ≤ b ∧ b ≤ 1000
  · simp only [if_pos h]
    obtain ⟨h1, h2, h3, h4⟩ := h
    have d1 : decide (a < 1) = false := by simp; omega
    have d2 : decide (1000 < a) = false := by simp; omega
    have d3 : decide (b < 1) = false := by simp; omega
    have d4 : decide (1000 < b) = false := by simp; omega
    obtain ⟨c, hc⟩ : ∃ c, c = a * b := ⟨_, rfl⟩
    have hc2 : 0 ≤ c ∧ c ≤ 1000000 := by
      rw [hc]
      have h5 : 0 ≤ a * b := Int.mul_nonneg (by omega) (by omega)
      have h6 : a * b ≤ 1000 * 1000 := Int.mul_le_mul h2 h4 (by omega) (by omega)
      omega
    have hw : IntKind.i64.wrap (a * b) = c := by rw [← hc]; exact IntWalk.i64_in _ (by omega)
    have HC := hid hc
    clear h1 h2 h3 h4 hc hc2
    go_enter Try.func8, Try.ntmps8
    go_wp2
    go_ret
    rw [← HC.out]
    refine ⟨(Below.refl _ _).alloc (Nat.le_refl _) _, w.heap.size, (fun k => k = w.heap.size), .slice none 0 0, rfl, fun k hk => by rw [hk]; exact Nat.le_refl _, heap_alloc_new _ _, World.ownsRow_nil _ _ _ _, rfl, fun k hk => (by cases hk), fun k hk => by rw [hk]; simp⟩
  · simp only [if_neg h]
    by_cases h1 : a < 1
    · have d1 : decide (a < 1) = true := by simpa using h1
      clear h h1
      go_enter Try.func8, Try.ntmps8
      go_wp2
      go_ret
      exact ⟨Below.refl _ _, rfl⟩
    have d1 : decide (a < 1) = false := by simpa using h1
    by_cases h2 : 1000 < a
    · have d2 : decide (1000 < a) = true := by simpa using h2
      clear h h1 h2
      go_enter Try.func8, Try.ntmps8
      go_wp2
      go_ret
      exact ⟨Below.refl _ _, rfl⟩
    have d2 : decide (1000 < a) = false := by simpa using h2
    by_cases h3 : b < 1
    · have d3 : decide (b < 1) = true := by simpa using h3
      clear h h1 h2 h3
      go_enter Try.func8, Try.ntmps8
      go_wp2
      go_ret
      exact ⟨Below.refl _ _, rfl⟩
    have d3 : decide (b < 1) = false := by simpa using h3
    have h4 : 1000 < b := by omega
    have d4 : decide (1000 < b) = true := by simpa using h4
    clear h h1 h2 h3 h4
    go_enter Try.func8, Try.ntmps8
    go_wp2
    go_ret
    exact ⟨Below.refl _ _, rfl⟩
theorem out_succ {k : Int} {l : List On} {q : Nat} {x : On} (hx : l[q]? = some x) : outK k (l.take (q + 1)) = outK k (l.take q) ++ (if x.1 = k then [] else [x]) := by
  rw [List.take_add_one, hx, outK, List.filter_append]
  congr 1
  by_cases h : x.1 = k
  · simp [h]
  · simp [h]
/-- A row of one's own that grows, since the world w. -/
structure GrO (w wr : World) (v : Value) (n : Nat) (l : List On) : Prop where
  row : wr.ownsRow w.heap.size TOn 2 v n (onv l)
  fr : Fr (fun _ => False) w wr
theorem GrO.push {w wr w2 : World} {v v2 : Value} {n m : Nat} {l : List On} {x : On} {o : Obj} (h : GrO w wr v n l) (_ : m = (l ++ [x]).length) (k1 : w2.ownsRow w.heap.size TOn 2 v2 m (onv (l ++ [x]))) (k2 : (wr.alloc o).grownBy w2 v.ownBlock) : GrO w w2 v2 m (l ++ [x]) :=
  ⟨k1, (h.fr.alloc o).grown k2 (fun k hk hl => by have := (h.row.lt k hk).1; omega)⟩
section
variable {w w' : World} {S fp : Nat → Prop} {p : Nat} {z : Lz} {lv : Value}
set_option maxRecDepth 100000 in
set_option maxHeartbeats 4000000 in
theorem RLeave_any (h : RlW w S p z lv) (k : Int) (hl : z.l.length ≤ 100000) : Calls Try.prog 24 #[.pointer (some ⟨p, 0, none⟩), .int .u64 k] w fun e w' => e = .returned (.bool (hasK k z.l)) ∧ (∃ lv2, RlW w' (exS S w w') p (z.leave k) lv2) ∧ Fr S w w' := by
  obtain ⟨a, c, hlv⟩ := own_form h.row
  obtain ⟨n, hn⟩ : ∃ n, n = z.l.length := ⟨_, rfl⟩
  have c2 := h.c2
  rw [hlv, ← hn] at c2
  rw [← hn] at hl
  have HH := hid h
  have HN := hid hn
  have HLV := hid hlv
  have H0 := hid (show GrO w w (.slice none 0 0) 0 (outK k (z.l.take 0)) from ⟨World.ownsRow_nil _ _ _ _, Fr.refl _ _⟩)
  clear h hn hlv c2
  go_enter Try.func24, Try.ntmps24
  go_wp2
  go_loopw [5, 6] (fun v i wr => ∃ (q m : Nat), q ≤ n ∧ i = .int .i64 q ∧ RowKit.Hid (GrO w wr v m (outK k (z.l.take q)))) (fun _ i _ => n - (intOf i).toNat)
  case atStart => exact ⟨0, 0, Nat.zero_le _, rfl, H0⟩
  case round =>
    obtain ⟨q, m, hq, rfl, HG⟩ := hrel
    have c2 := (HH.out.no HG.out.fr).c2
    rw [HLV.out, ← HN.out] at c2
    by_cases hqn : q < n
    · have hx := List.getElem?_eq_getElem (l := z.l) (i := q) (by rw [← HN.out]; exact hqn)
      generalize z.l[q]'(by rw [← HN.out]; exact hqn) = x at hx
      obtain ⟨g, c', hlv, hat, e0, e1⟩ := (HH.out.no HG.out.fr).at_ hx
      have e := HLV.out
      rw [hlv] at e
      simp only [Value.slice.injEq] at e
      obtain ⟨rfl, -, rfl⟩ := e
      have HX := hid hx
      have HAT := hid hat
      clear hx hlv hat
      by_cases hk : x.1 = k
      · have d1 : (x.1 != k) = false := by simpa using hk
        have HG2 := hid (show GrO w wr _ m (outK k (z.l.take (q + 1))) by rw [out_succ HX.out, if_pos hk, List.append_nil]; exact HG.out)
        clear hk
        go_wp2
        go_roundw
        case rel => exact ⟨q + 1, m, by omega, by go_num, HG2⟩
        case measure => simp [intOf]; omega
      · have d1 : (x.1 != k) = true := by simpa using hk
        have hm := ownO_len HG.out.row
        obtain ⟨va, vc, rfl⟩ := own_form HG.out.row
        have hlo : (outK k (z.l.take q)).length ≤ 100000 := Nat.le_trans (List.length_filter_le _ _) (by rw [List.length_take]; omega)
        obtain ⟨lo, hloe⟩ : ∃ lo, lo = outK k (z.l.take q) := ⟨_, rfl⟩
        have HLO := hid hloe
        rw [← hloe] at HG hlo hm
        have HM := hid hm
        have HNK := hid hk
        have HRW := hid (show wr.ownsRow w.heap.size TOn 2 (.slice va m vc) lo.length (onv lo) by have h := HG.out.row; rw [hm] at h ⊢; exact h)
        clear hk hm hloe
        go_wp2_with (first
          | ((with_reducible refine at_op ⟨some 34, _, _, _, _, _⟩ ?_); refine wpList_runW rfl (.agg #[.int .u64 x.1, .int .i64 x.2]) (load_cells Try.underlying42 rfl (by kernel_rfl) rfl rfl HAT.out) ?_)
          | ((with_reducible refine at_op ⟨some 36, _, _, _, _, _⟩ ?_); go_loud (refine wpList_appO rfl (.tmp 27) (.tmp 35) rfl w.heap.size (.slice va m vc) lo [x] rfl (World.ownsRow.alloc HRW.out _) wr.heap.size 0 1 1 rfl rfl (fun j y hy => new_on wr x j y hy) (by simp; omega) (by have := HG.out.fr.size; simp; omega) ?_); intro v2 w2 k1 k2 k3; obtain ⟨ln, hln⟩ : ∃ ln, ln = (lo ++ [x]).length := ⟨_, rfl⟩; rw [← hln] at k1; have HG2 := hid (HG.out.push hln k1 k2); clear k1 k2 k3)
          | fail)
        go_roundw
        case rel => exact ⟨q + 1, _, by omega, by go_num, hid (by rw [out_succ HX.out, if_neg HNK.out, ← HLO.out]; exact HG2.out)⟩
        case measure => simp [intOf]; omega
    · obtain rfl : n = q := by omega
      have hall : z.l.take n = z.l := List.take_of_length_le (by rw [← HN.out]; exact Nat.le_refl _)
      have hG := HG.out
      rw [hall] at hG
      have hm := ownO_len hG.row
      have hd : decide (m < n) = hasK k z.l := by rw [← out_len, hm, HN.out]
      have HD := hid hd
      have HG2 := hid hG
      obtain ⟨va, vc, rfl⟩ := own_form hG.row
      have z2 := (HH.out.no HG.out.fr).fz 2
      clear hqn hall hG hm hd
      go_wp2
      go_ret
      obtain ⟨q1, q2⟩ := HH.out.set (z2 := z.leave k) HG2.out.fr rfl rfl HG2.out.row
      exact ⟨by rw [← HD.out]; rfl, ⟨_, q1⟩, q2⟩
end
end Go.Proofs.Ytbdhjkdojgdhbaa
