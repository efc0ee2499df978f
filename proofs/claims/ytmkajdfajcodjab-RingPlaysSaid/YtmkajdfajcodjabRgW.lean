/-
  SameInts at two told rows; the law's helper turned; a ring above a bound; awake.
-/
import Derived.Test.YtmkajdfajcodjabRgL
import Derived.Test.YtmkajdfajcodjabRgT
namespace Go.Proofs.Ytmkajdfajcodjab
open Go Go.ChangeShapes Go.WideShapes Go.ChangeAt Go.RowKit

set_option maxHeartbeats 2000000 in
set_option maxRecDepth 100000 in
/-- SameInts, at two alike rows. -/
theorem SameI_tl (w : World) (va vb : Value) (xs : List Int) (ha : Tl iv w.heap.size w va xs) (hb : Tl iv w.heap.size w vb xs) :
    Calls Try.prog 15 #[va, vb] w fun e w' => e = .returned (.bool true) ∧ Below w.heap.size w w' := by
  obtain ⟨a, ka, rfl, hka, hka2, hA⟩ := ha.ex
  obtain ⟨a', kb, rfl, hkb, hkb2, hB⟩ := hb.ex
  obtain ⟨n, hn⟩ : ∃ n, n = xs.length := ⟨_, rfl⟩
  rw [← hn] at hka hkb hA hB ⊢
  have HLEN := hid hn
  have HA := hid hA
  have HB := hid hB
  have HB0 := hid (Below.refl w.heap.size w)
  clear ha hb hA hB hn
  go_enter Try.func15, Try.ntmps15
  go_wp2
  go_loopw [5] (fun i wr => ∃ q : Nat, q ≤ n ∧ i = .int .i64 q ∧ RowKit.Hid (Below w.heap.size w wr)) (fun i _ => n - (intOf i).toNat)
  case atStart => exact ⟨0, by omega, rfl, HB0⟩
  case round =>
    obtain ⟨q, hq1, rfl, HW⟩ := hrel
    by_cases hql : q < n
    · have hqx : q < xs.length := by rw [← HLEN.out]; exact hql
      have hx : xs[q]? = some xs[q] := List.getElem?_eq_getElem hqx
      generalize xs[q] = x at hx
      obtain ⟨g, o, rfl, hg, hc⟩ := HA.out (by omega)
      obtain ⟨g', o', rfl, hg', hc'⟩ := HB.out (by omega)
      have c1 : wr.cell? ⟨g, o + q, none⟩ = some (.int .i64 x) := (World.cell?_of_block (w := w) (w' := wr) (a := ⟨g, o + q, none⟩) (HW.out.block g hg)).trans (hc q _ hx)
      have c2 : wr.cell? ⟨g', o' + q, none⟩ = some (.int .i64 x) := (World.cell?_of_block (w := w) (w' := wr) (a := ⟨g', o' + q, none⟩) (HW.out.block g' hg')).trans (hc' q _ hx)
      clear hx hqx hc hc' hg hg'
      go_upto_region 6 with (fail)
      go_quiet (fail)
      all_goals
        go_wp2
        go_roundw
        case rel => exact ⟨q + 1, by omega, by go_num, hid ⟨HW.out.os, HW.out.tape, HW.out.output, HW.out.size, HW.out.block⟩⟩
        case measure => simp [intOf]; omega
    · obtain rfl : q = n := by omega
      go_wp2
      go_ret
      exact ⟨rfl, HW.out⟩
theorem rev_take {l : List Int} {k N : Nat} {x : Int} (hN : N = l.length) (hk : k < N) (hx : l[k]? = some x) : l.reverse.take (N - k) = l.reverse.take (N - (k + 1)) ++ [x] := by
  have e : N - k = N - (k + 1) + 1 := by omega
  have e2 : l.length - 1 - (N - (k + 1)) = k := by omega
  have hx2 : l.reverse[N - (k + 1)]? = some x := by
    rw [List.getElem?_reverse (by omega), e2, hx]
  rw [e, List.take_add_one, hx2]
  rfl
set_option maxHeartbeats 2000000 in
/-- turned. -/
theorem turned_any {w : World} {v : Value} {l : List Int} (h : Tl iv w.heap.size w v l) (hl : l.length ≤ 100000) : Calls Try.prog 18 #[v] w (RowTold w l.reverse) := by
  obtain ⟨a, c, rfl, h1, h2, hA⟩ := h.ex
  obtain ⟨N, hN⟩ : ∃ N, N = l.length := ⟨_, rfl⟩
  rw [← hN] at h1 hl hA ⊢
  have hw1 := IntWalk.i64_in ((N : Int) - 1) (by omega)
  have HN := hid hN
  have HA := hid hA
  have H0 := hid (show w.ownsRow w.heap.size TI 1 (.slice none 0 0) (l.reverse.take (N - N)).length ((l.reverse.take (N - N)).map iv) by rw [Nat.sub_self]; exact World.ownsRow_nil _ _ _ _)
  clear h hN hA
  go_enter Try.func18, Try.ntmps18
  go_wp2
  go_loopw [3, 4] (fun v i wr => ∃ (k : Nat) (z : Int), k ≤ N ∧ i = .int .i64 z ∧ z = (k : Int) - 1 ∧ RowKit.Hid (wr.ownsRow w.heap.size TI 1 v (l.reverse.take (N - k)).length ((l.reverse.take (N - k)).map iv)) ∧ RowKit.Hid (Below w.heap.size w wr)) (fun _ i _ => (intOf i + 1).toNat)
  case atStart => exact ⟨N, _, Nat.le_refl _, rfl, rfl, H0, Below.refl _ _⟩
  case round =>
    obtain ⟨k, z, hk, rfl, hz, HR, HB⟩ := hrel
    by_cases hk0 : k = 0
    · subst hk0
      obtain rfl : z = -1 := by omega
      have hr := HR.out
      rw [Nat.sub_zero, List.take_of_length_le (by rw [List.length_reverse, ← HN.out]; exact Nat.le_refl _)] at hr
      have HR2 := hid hr
      clear hr HR hz
      go_wp2
      go_ret
      exact ⟨HB.out, _, rfl, own_told HR2.out⟩
    · obtain ⟨j, rfl⟩ : ∃ j, k = j + 1 := ⟨k - 1, by omega⟩
      obtain rfl : z = (j : Int) := by omega
      have hjl : j < l.length := by rw [← HN.out]; omega
      have hs : l[j]? = some l[j] := List.getElem?_eq_getElem hjl
      generalize l[j] = x at hs
      obtain ⟨g, o, rfl, hg, hc⟩ := HA.out (by omega)
      have m0 : wr.cell? ⟨g, o + j, none⟩ = some (iv x) := (World.cell?_of_block (w := w) (w' := wr) (a := ⟨g, o + j, none⟩) (HB.out.block g hg)).trans (hc j _ hs)
      have hzz := rev_take (HN.out) (k := j) (by omega) hs
      have HZ := hid hzz
      have hjN : j < N := by omega
      have hw3 := IntWalk.i64_in ((j : Int) - 1) (by omega)
      have hlen : (l.reverse.take (N - (j + 1))).length ≤ 100000 := by rw [List.length_take]; omega
      have hBs := HB.out.size
      obtain ⟨xs, hxs⟩ : ∃ xs, xs = l.reverse.take (N - (j + 1)) := ⟨_, rfl⟩
      rw [← hxs] at HR HZ hlen
      obtain ⟨va, vc, hva⟩ := own_form HR.out
      obtain ⟨ln, hln⟩ : ∃ ln, ln = xs.length := ⟨_, rfl⟩
      have HLN := hid hln
      rw [← hln] at hva
      subst hva
      have HR0 := hid (show wr.ownsRow w.heap.size TI 1 (.slice va ln vc) xs.length (xs.map iv) from HR.out)
      clear hzz hs hjl hz hk0 hk hw1 hg hc hxs hln HR
      go_wp2_with (first
        | ((with_reducible refine at_op ⟨some 18, _, _, _, _, _⟩ ?_); go_loud (refine wpList_appZ rfl (.tmp 12) (.tmp 17) rfl w.heap.size (.slice va ln vc) xs [x] rfl (HR0.out.alloc _) wr.heap.size 0 1 1 rfl rfl (fun j y hy => new_one wr x j y hy) (by simp; omega) (by simp; omega) ?_); intro v2 w2 k1 k2 k3; have K1 := hid k1; have K2 := hid k2; clear k1 k2 k3)
        | fail)
      have HR5 := hid (show w2.ownsRow w.heap.size TI 1 v2 (l.reverse.take (N - j)).length ((l.reverse.take (N - j)).map iv) by rw [HZ.out]; exact K1.out)
      have HB5 := hid (show Below w.heap.size w w2 from (HB.out.alloc hBs _).grown K2.out (by simp; omega) (fun k hk => (HR0.out.lt k hk).1))
      clear K1 K2 HR0 HB
      go_roundw
      case rel => exact ⟨j, _, by omega, rfl, rfl, HR5, HB5⟩
      case measure => simp [intOf]
/-- A ring, all of it above a bound. -/
def RgB (B : Nat) (w : World) (v : Value) (most : Nat) (q : List Int) : Prop := ∃ S, (∀ k, S k → B ≤ k) ∧ RgIn S w v most q
theorem RgB.below {B : Nat} {w w' : World} {v : Value} {most : Nat} {q : List Int} (h : RgB B w v most q) (hb : Below w.heap.size w w') : RgB B w' v most q := by
  obtain ⟨S, h1, h2⟩ := h
  exact ⟨S, h1, h2.below hb⟩
theorem RgB.ptr {B : Nat} {w : World} {v : Value} {most : Nat} {q : List Int} (h : RgB B w v most q) : ∃ p, v = .pointer (some ⟨p, 0, none⟩) := h.choose_spec.2.ptr
theorem RgB.rdq {B : Nat} {w : World} {v : Value} {most : Nat} {q : List Int} (h : RgB B w v most q) : RdQ w v q := h.choose_spec.2.rdq
theorem RgB.lim {B : Nat} {w : World} {v : Value} {most : Nat} {q : List Int} (h : RgB B w v most q) : q.length ≤ most ∧ most ≤ 65536 := h.choose_spec.2.lim
theorem ex_bound {B : Nat} {S : Nat → Prop} {w w' : World} (hS : ∀ k, S k → B ≤ k) (hB : B ≤ w.heap.size) : ∀ k, exS S w w' k → B ≤ k := fun k hk => by
  rcases hk with e | e
  · exact hS k e
  · omega
theorem RgB.put {B : Nat} {w : World} {v : Value} {most : Nat} {q : List Int} (h : RgB B w v most q) (hB : B ≤ w.heap.size) (x : Int) : Calls Try.prog 10 #[v, iv x] w fun e w' =>
    e = .returned (.int .i64 (if q.length < most then 0 else 3)) ∧ RgB B w' v most (if q.length < most then q ++ [x] else q) ∧ Below B w w' := by
  obtain ⟨S, h1, h2⟩ := h
  refine (h2.put x).mono ?_
  rintro e w' ⟨he, h3, h4⟩
  exact ⟨he, ⟨_, ex_bound h1 hB, h3⟩, h4.below hB h1⟩
theorem RgB.take {B : Nat} {w : World} {v : Value} {most : Nat} {q : List Int} (h : RgB B w v most q) (hB : B ≤ w.heap.size) : Calls Try.prog 12 #[v] w fun e w' =>
    e = .returned (.tuple #[iv (q.headD 0), .int .i64 (if q = [] then 12 else 0)]) ∧ RgB B w' v most q.tail ∧ Below B w w' := by
  obtain ⟨S, h1, h2⟩ := h
  refine h2.take.mono ?_
  rintro e w' ⟨he, h3, h4⟩
  exact ⟨he, ⟨_, ex_bound h1 hB, h3⟩, h4.below hB h1⟩
theorem RgB.len {B : Nat} {w : World} {v : Value} {most : Nat} {q : List Int} (h : RgB B w v most q) : Calls Try.prog 14 #[v] w fun e w' => e = .returned (nI q.length) ∧ w = w' := h.choose_spec.2.len
theorem Rnew_ok (w : World) (mo : Int) (h : 1 ≤ mo ∧ mo ≤ 65536) : Calls Try.prog 7 #[iv mo] w fun e w' => Below w.heap.size w w' ∧ ∃ v, e = .returned (.tuple #[v, .int .i64 0]) ∧ RgB w.heap.size w' v mo.toNat [] := by
  refine (Rnew_any w mo).mono ?_
  rintro e w' ⟨h1, h2⟩
  rw [if_pos h] at h2
  obtain ⟨v, S, he, h3, h4⟩ := h2
  exact ⟨h1, v, he, S, h3, h4⟩
end Go.Proofs.Ytmkajdfajcodjab
