/-
  The laws' helpers: SameInts of alike rows, the plain Bound, great; the document's examples plainly.
-/
import Derived.Test.YtjmhlmohennknabCyZ
namespace Go.Proofs.Ytjmhlmohennknab
open Go Go.ChangeShapes Go.WideShapes Go.ChangeAt Go.RowKit

theorem Tl.ints {B : Nat} {w : World} {v : Value} {xs : List Nat} (h : Tl nI B w v xs) : Tl iv B w v (xs.map Int.ofNat) := by
  obtain ⟨a, c, h1, h2, h3, h4⟩ := h.ex
  refine ⟨a, c, by rw [List.length_map]; exact h1, by rw [List.length_map]; exact h2, h3, fun hl => ?_⟩
  rw [List.length_map] at hl
  obtain ⟨b, o, h5, h6, h7⟩ := h4 hl
  refine ⟨b, o, h5, h6, fun j x hx => ?_⟩
  rw [List.getElem?_map, Option.map_eq_some_iff] at hx
  obtain ⟨y, hy, rfl⟩ := hx
  exact h7 j y hy
set_option maxHeartbeats 2000000 in
set_option maxRecDepth 100000 in
/-- SameInts, at two alike rows. -/
theorem SameI_tl (w : World) (va vb : Value) (xs : List Int) (ha : Tl iv w.heap.size w va xs) (hb : Tl iv w.heap.size w vb xs) :
    Calls Try.prog 12 #[va, vb] w fun e w' => e = .returned (.bool true) ∧ Below w.heap.size w w' := by
  obtain ⟨a, ka, rfl, hka, hka2, hA⟩ := ha.ex
  obtain ⟨a', kb, rfl, hkb, hkb2, hB⟩ := hb.ex
  obtain ⟨n, hn⟩ : ∃ n, n = xs.length := ⟨_, rfl⟩
  rw [← hn] at hka hkb hA hB ⊢
  have HLEN := hid hn
  have HA := hid hA
  have HB := hid hB
  have HB0 := hid (Below.refl w.heap.size w)
  clear ha hb hA hB hn
  go_enter Try.func12, Try.ntmps12
  go_wp2
  go_loopw [5] (fun i wr => ∃ q : Nat, q ≤ n ∧ i = .int .i64 q ∧ RowKit.Hid (Below w.heap.size w wr)) (fun i _ => n - (intOf i).toNat)
  case atStart => exact ⟨0, by omega, rfl, HB0⟩
  case round =>
    obtain ⟨q, hq1, rfl, HW⟩ := hrel
    by_cases hql : q < n
    · have hqx : q < xs.length := by rw [← HLEN.out]; exact hql
      have hx : xs[q]? = some xs[q] := List.getElem?_eq_getElem hqx
      generalize xs[q] = x at hx
      obtain ⟨g, o, rfl, hg, hc⟩ := HA.out (by omega)
      obtain ⟨g', o', rfl, hg', hc'⟩ := HB.out (by omega)
      have c1 : wr.cell? ⟨g, o + q, none⟩ = some (.int .i64 x) := (World.cell?_of_block (w := w) (w' := wr) (a := ⟨g, o + q, none⟩) (HW.out.block g hg)).trans (hc q _ hx)
      have c2 : wr.cell? ⟨g', o' + q, none⟩ = some (.int .i64 x) := (World.cell?_of_block (w := w) (w' := wr) (a := ⟨g', o' + q, none⟩) (HW.out.block g' hg')).trans (hc' q _ hx)
      clear hx hqx hc hc' hg hg'
      go_upto_region 6 with (fail)
      go_quiet (fail)
      all_goals
        go_wp2
        go_roundw
        case rel => exact ⟨q + 1, by omega, by go_num, hid ⟨HW.out.os, HW.out.tape, HW.out.output, HW.out.size, HW.out.block⟩⟩
        case measure => simp [intOf]; omega
    · obtain rfl : q = n := by omega
      go_wp2
      go_ret
      exact ⟨rfl, HW.out⟩
set_option maxRecDepth 100000 in
set_option maxHeartbeats 2000000 in
theorem RBound_any (w : World) (cv ev : Value) (cs : List Int) (es : List (List Int)) (hG : GrW w.heap.size w cv ev cs es) (hn : cs.length ≤ 100000) (ht : totE es ≤ 1000000) :
    Calls Try.prog 16 #[.agg #[cv, ev]] w fun e w' => e = .returned (.int .i64 ((8 * (cs.length + 1 + totE es) : Nat) : Int)) ∧ Below w.heap.size w w' := by
  obtain ⟨ca, cc, rfl, hcc1, hcc2, hC⟩ := hG.c.ex
  obtain ⟨ea, ec, rfl, hec1, hec2, hE⟩ := hG.e
  have HE := hid hE
  have HT := hid ht
  obtain ⟨n, hn0⟩ : ∃ n, n = cs.length := ⟨_, rfl⟩
  obtain ⟨m, hm0⟩ : ∃ m, m = es.length := ⟨_, rfl⟩
  rw [← hn0] at hcc1 hn
  rw [← hm0] at hec1
  have HM := hid hm0
  rw [← hn0, ← hm0]
  obtain ⟨W1, hW1⟩ : ∃ W1, W1 = w.alloc (.cells #[.slice ca n cc, .slice ea m ec] TGr) := ⟨_, rfl⟩
  have HW1 := hid hW1
  have hb1 : Below w.heap.size w W1 := by rw [hW1]; exact (Below.refl _ _).alloc (Nat.le_refl _) _
  have hg := heap_alloc_new w (.cells #[.slice ca n cc, .slice ea m ec] TGr)
  rw [← hW1] at hg
  have g0 : W1.cell? ⟨w.heap.size, 0, none⟩ = some (.slice ca n cc) := by rw [cell_of_row _ _ 0 _ _ _ hg]; rfl
  have g1 : W1.cell? ⟨w.heap.size, 1, none⟩ = some (.slice ea m ec) := by rw [cell_of_row _ _ 1 _ _ _ hg]; rfl
  have HB1 := hid hb1
  have HG1 := hid g1
  have hwn : IntKind.i64.wrap ((n : Int) + 1) = (n : Int) + 1 := IntWalk.i64_in _ ⟨by omega, by omega⟩
  clear hG hC hE hn0 hm0 ht hb1 hg g1 hW1
  go_enter Try.func16, Try.ntmps16
  go_upto_region 1 with fail
  rw [← HW1.out]
  clear HW1
  go_wp2_with fail
  clear g0
  go_loopw [3, 4] (fun v i wr => ∃ (t : Nat) (b : Int), t ≤ m ∧ i = .int .i64 t ∧ v = .int .i64 b ∧ RowKit.Hid (b = ((n + 1 + totE (es.take t) : Nat) : Int)) ∧ RowKit.Hid (wr = W1)) (fun _ i _ => m - (intOf i).toNat)
  case atStart => exact ⟨0, (n : Int) + 1, by omega, rfl, rfl, hid (by simp [totE]), hid rfl⟩
  case round =>
    obtain ⟨t, b, ht, rfl, rfl, HBv, HWr⟩ := hrel
    have hw := HWr.out.symm
    subst hw
    have g1 := HG1.out
    have htl := totE_take es t
    have hbb := HBv.out
    have htt := HT.out
    have hb0 : 0 ≤ b ∧ b ≤ 1100001 := by omega
    clear htl hbb htt
    by_cases htm : t < m
    · have hlt : t < es.length := by have := HM.out; omega
      have hx : es[t]? = some (es.getD t []) := by rw [List.getD_eq_getElem?_getD, List.getElem?_eq_getElem hlt]; rfl
      obtain ⟨l, hl⟩ : ∃ l, l = es.getD t [] := ⟨_, rfl⟩
      have hsu := totE_succ es t
      have htl := totE_take es (t + 1)
      rw [← hl] at hx hsu
      obtain ⟨b', o, rfl, hb, hcell⟩ := HE.out (by omega)
      obtain ⟨lv, c1, hT⟩ := hcell t l hx
      have cx : W1.cell? ⟨b', o + t, none⟩ = some lv := (World.cell?_of_block (w := w) (w' := W1) (a := ⟨b', o + t, none⟩) (HB1.out.block b' hb)).trans c1
      obtain ⟨la, lc, rfl, _⟩ := hT.ex
      have HSU := hid hsu
      have HTL := hid htl
      obtain ⟨ll, hll⟩ : ∃ ll, ll = l.length := ⟨_, rfl⟩
      have hllb : ll ≤ 1000000 := by have := HT.out; omega
      have HLL := hid hll
      rw [← hll] at cx
      have hwb : IntKind.i64.wrap (b + (ll : Int)) = b + (ll : Int) := IntWalk.i64_in _ ⟨by omega, by omega⟩
      clear hl hx hb hcell c1 hT hlt hsu htl hll
      go_wp2_with fail
      go_roundw
      case rel => exact ⟨t + 1, b + ll, by omega, by go_num, rfl, hid (by have := HSU.out; have := HBv.out; have := HLL.out; omega), by first | exact hid rfl | exact hid trivial⟩
      case measure => simp [intOf]; omega
    · have e : m = t := by omega
      subst e
      have hwb : IntKind.i64.wrap (8 * b) = 8 * b := IntWalk.i64_in _ ⟨by omega, by omega⟩
      go_wp2_with fail
      go_ret
      have h1 := HBv.out
      rw [List.take_of_length_le (by have := HM.out; omega)] at h1
      exact ⟨by rw [h1]; rfl, HB1.out⟩
/-- What is looked at. -/
structure Small (cs : List Int) (es : List (List Int)) (su : List Int) : Prop where
  c : cs.length ≤ 100
  e : es.length ≤ 120
  s : su.length ≤ 300
  t : totE es ≤ 2000
def GreatPost (w : World) (cs : List Int) (es : List (List Int)) (su : List Int) (e : Ending) (w' : World) : Prop := ∃ r, e = .returned (.bool r) ∧ Below w.heap.size w w' ∧ (r = false → Small cs es su)
set_option maxRecDepth 100000 in
set_option maxHeartbeats 2000000 in
theorem great_any (w : World) (cv ev sv : Value) (cs : List Int) (es : List (List Int)) (su : List Int) (hG : GrW w.heap.size w cv ev cs es) (hS : Tl iv w.heap.size w sv su) :
    Calls Try.prog 9 #[.agg #[cv, ev], sv] w (GreatPost w cs es su) := by
  obtain ⟨ca, cc, rfl, hcc1, hcc2, hC⟩ := hG.c.ex
  obtain ⟨ea, ec, rfl, hec1, hec2, hE⟩ := hG.e
  obtain ⟨sa, sc, rfl, hsc1, hsc2, _⟩ := hS.ex
  have HE := hid hE
  obtain ⟨n, hn0⟩ : ∃ n, n = cs.length := ⟨_, rfl⟩
  obtain ⟨m, hm0⟩ : ∃ m, m = es.length := ⟨_, rfl⟩
  obtain ⟨ns, hns0⟩ : ∃ ns, ns = su.length := ⟨_, rfl⟩
  rw [← hn0] at hcc1
  rw [← hm0] at hec1
  rw [← hns0] at hsc1
  have HN := hid hn0
  have HM := hid hm0
  have HNS := hid hns0
  rw [← hn0, ← hm0, ← hns0]
  obtain ⟨W1, hW1⟩ : ∃ W1, W1 = w.alloc (.cells #[.slice ca n cc, .slice ea m ec] TGr) := ⟨_, rfl⟩
  have HW1 := hid hW1
  have hb1 : Below w.heap.size w W1 := by rw [hW1]; exact (Below.refl _ _).alloc (Nat.le_refl _) _
  have hg := heap_alloc_new w (.cells #[.slice ca n cc, .slice ea m ec] TGr)
  rw [← hW1] at hg
  have g0 : W1.cell? ⟨w.heap.size, 0, none⟩ = some (.slice ca n cc) := by rw [cell_of_row _ _ 0 _ _ _ hg]; rfl
  have g1 : W1.cell? ⟨w.heap.size, 1, none⟩ = some (.slice ea m ec) := by rw [cell_of_row _ _ 1 _ _ _ hg]; rfl
  have HB1 := hid hb1
  have HG1 := hid g1
  clear hG hC hE hn0 hm0 hns0 hb1 hg hW1 hS
  go_enter Try.func9, Try.ntmps9
  go_upto_region 1 with fail
  rw [← HW1.out]
  clear HW1
  by_cases h1 : 100 < n
  · go_wp2_with fail
    go_ret
    exact ⟨true, rfl, HB1.out, fun h => by cases h⟩
  by_cases h2 : 120 < m
  · go_wp2_with fail
    go_ret
    exact ⟨true, rfl, HB1.out, fun h => by cases h⟩
  by_cases h3 : 300 < ns
  · go_wp2_with fail
    go_ret
    exact ⟨true, rfl, HB1.out, fun h => by cases h⟩
  go_wp2_with fail
  rw [show decide (100 < (n : Int)) = false from decide_eq_false (by omega), show decide (120 < (m : Int)) = false from decide_eq_false (by omega), show decide (300 < (ns : Int)) = false from decide_eq_false (by omega)]
  clear g0 g1
  go_loopw [5, 6] (fun v i wr => ∃ (t : Nat) (b : Int), t ≤ m ∧ i = .int .i64 t ∧ v = .int .i64 b ∧ RowKit.Hid (b = (totE (es.take t) : Int) ∧ b ≤ 500 * t) ∧ RowKit.Hid (wr = W1)) (fun _ i _ => m - (intOf i).toNat)
  case atStart => exact ⟨0, 0, by omega, rfl, rfl, hid ⟨by simp [totE], by omega⟩, hid rfl⟩
  case round =>
    obtain ⟨t, b, ht, rfl, rfl, HBv, HWr⟩ := hrel
    have hw := HWr.out.symm
    subst hw
    have g1 := HG1.out
    have hbb := HBv.out
    have hb0 : 0 ≤ b ∧ b ≤ 60000 := by omega
    clear hbb
    by_cases htm : t < m
    · have hlt : t < es.length := by have := HM.out; omega
      have hx : es[t]? = some (es.getD t []) := by rw [List.getD_eq_getElem?_getD, List.getElem?_eq_getElem hlt]; rfl
      obtain ⟨l, hl⟩ : ∃ l, l = es.getD t [] := ⟨_, rfl⟩
      have hsu := totE_succ es t
      rw [← hl] at hx hsu
      obtain ⟨b', o, rfl, hb, hcell⟩ := HE.out (by omega)
      obtain ⟨lv, c1, hT⟩ := hcell t l hx
      have cx : W1.cell? ⟨b', o + t, none⟩ = some lv := (World.cell?_of_block (w := w) (w' := W1) (a := ⟨b', o + t, none⟩) (HB1.out.block b' hb)).trans c1
      obtain ⟨la, lc, rfl, _⟩ := hT.ex
      have HSU := hid hsu
      obtain ⟨ll, hll⟩ : ∃ ll, ll = l.length := ⟨_, rfl⟩
      have HLL := hid hll
      rw [← hll] at cx
      clear hl hx hb hcell c1 hT hlt hsu hll
      by_cases h5 : 500 < ll
      · go_wp2_with fail
        go_ret
        exact ⟨true, rfl, HB1.out, fun h => by cases h⟩
      · have hwb : IntKind.i64.wrap (b + (ll : Int)) = b + (ll : Int) := IntWalk.i64_in _ ⟨by omega, by omega⟩
        go_wp2_with fail
        go_roundw
        case rel => exact ⟨t + 1, b + ll, by omega, by go_num, rfl, hid (by have := HSU.out; have := HBv.out; have := HLL.out; omega), by first | exact hid rfl | exact hid trivial⟩
        case measure => simp [intOf]; omega
    · have e : m = t := by omega
      subst e
      have hbb := HBv.out.1
      rw [List.take_of_length_le (by have := HM.out; omega)] at hbb
      have HBB := hid hbb
      clear hbb
      go_wp2_with fail
      go_ret
      refine ⟨decide (2000 < b), rfl, HB1.out, fun h => ⟨by rw [← HN.out]; omega, by rw [← HM.out]; omega, by rw [← HNS.out]; omega, ?_⟩⟩
      have := of_decide_eq_false h
      have := HBB.out
      omega
end Go.Proofs.Ytjmhlmohennknab
