/-
  The law's helper same; a frame above a bound; FrameNil, FrameEnds.
-/
import Derived.Test.YtcoclaabainibaaDoorFmI
namespace Go.Proofs.YtcoclaabainibaaDoor
open Go Go.ChangeShapes Go.WideShapes Go.ChangeAt Go.RowKit

set_option maxHeartbeats 2000000 in
set_option maxRecDepth 100000 in
/-- same, at two alike rows. -/
theorem same_tl (w : World) (va vb : Value) (xs : List Int) (ha : Tl iv w.heap.size w va xs) (hb : Tl iv w.heap.size w vb xs) :
    Calls Tryd.prog 14 #[va, vb] w fun e w' => e = .returned (.bool true) ∧ Below w.heap.size w w' := by
  obtain ⟨a, ka, rfl, hka, hka2, hA⟩ := ha.ex
  obtain ⟨a', kb, rfl, hkb, hkb2, hB⟩ := hb.ex
  obtain ⟨n, hn⟩ : ∃ n, n = xs.length := ⟨_, rfl⟩
  rw [← hn] at hka hkb hA hB ⊢
  have HLEN := hid hn
  have HA := hid hA
  have HB := hid hB
  have HB0 := hid (Below.refl w.heap.size w)
  clear ha hb hA hB hn
  go_enter Tryd.func14, Tryd.ntmps14
  go_wp2
  go_loopw [5] (fun i wr => ∃ q : Nat, q ≤ n ∧ i = .int .i64 q ∧ RowKit.Hid (Below w.heap.size w wr)) (fun i _ => n - (intOf i).toNat)
  case atStart => exact ⟨0, by omega, rfl, HB0⟩
  case round =>
    obtain ⟨q, hq1, rfl, HW⟩ := hrel
    by_cases hql : q < n
    · have hqx : q < xs.length := by rw [← HLEN.out]; exact hql
      have hx : xs[q]? = some xs[q] := List.getElem?_eq_getElem hqx
      generalize xs[q] = x at hx
      obtain ⟨g, o, rfl, hg, hc⟩ := HA.out (by omega)
      obtain ⟨g', o', rfl, hg', hc'⟩ := HB.out (by omega)
      have c1 : wr.cell? ⟨g, o + q, none⟩ = some (.int .i64 x) := (World.cell?_of_block (w := w) (w' := wr) (a := ⟨g, o + q, none⟩) (HW.out.block g hg)).trans (hc q _ hx)
      have c2 : wr.cell? ⟨g', o' + q, none⟩ = some (.int .i64 x) := (World.cell?_of_block (w := w) (w' := wr) (a := ⟨g', o' + q, none⟩) (HW.out.block g' hg')).trans (hc' q _ hx)
      clear hx hqx hc hc' hg hg'
      go_upto_region 6 with (fail)
      go_quiet (fail)
      all_goals
        go_wp2
        go_roundw
        case rel => exact ⟨q + 1, by omega, by go_num, hid ⟨HW.out.os, HW.out.tape, HW.out.output, HW.out.size, HW.out.block⟩⟩
        case measure => simp [intOf]; omega
    · obtain rfl : q = n := by omega
      go_wp2
      go_ret
      exact ⟨rfl, HW.out⟩
/-- A frame of which all lies above a bound. -/
def FmA (B : Nat) (w : World) (p : Nat) (f : Fs) : Prop := ∃ S qv sv, (∀ k, S k → B ≤ k) ∧ FmW w S p f qv sv
theorem FmA.no {B p : Nat} {w w' : World} {f : Fs} (h : FmA B w p f) (hf : Fr (fun _ => False) w w') : FmA B w' p f := by
  obtain ⟨S, qv, sv, h1, h2⟩ := h
  exact ⟨S, qv, sv, h1, h2.no hf⟩
theorem FmA.next {B p : Nat} {w : World} {f : Fs} (h : FmA B w p f) (hB : B ≤ w.heap.size) (hf : FsR f) (r v : Int) : Calls Tryd.prog 11 #[.pointer (some ⟨p, 0, none⟩), iv r, iv v] w fun e w' =>
    e = .returned (.tuple #[.agg (evA (nxE f r v)), iv (nxV f r v)]) ∧ FmA B w' p (nxF f r v) ∧ Below B w w' := by
  obtain ⟨S, qv, sv, h1, h2⟩ := h
  refine (FNext_any h2 hf r v).mono ?_
  rintro e w' ⟨rfl, ⟨qv2, sv2, h3⟩, h4⟩
  exact ⟨rfl, ⟨exS S w w', qv2, sv2, fun k hk => by
    rcases hk with e | e
    · exact h1 k e
    · exact Nat.le_trans hB e.1, h3⟩, h4.below hB h1⟩
theorem FmA.q {B p : Nat} {w : World} {f : Fs} (h : FmA B w p f) : StQ w (.pointer (some ⟨p, 0, none⟩)) f.st := by
  obtain ⟨S, qv, sv, h1, h2⟩ := h
  exact .inr ⟨p, S, f, qv, sv, rfl, h2, rfl⟩
/-- What the law's stack tells, as a slice. -/
theorem stack_sl {w : World} {v : Value} {q : List Int} {n m : Nat} (h : StQ w v q) (h8 : q.length ≤ 8) (hm : 8 ≤ m ∧ m ≤ 99) (hn : n = q.length) : Calls Tryd.prog 15 #[v, .int .i64 m] w fun e w' => Below w.heap.size w w' ∧ ∃ a c, e = .returned (.slice a n c) ∧ n ≤ c ∧ Tl iv w'.heap.size w' (.slice a n c) q := by
  refine (stack_told h (by omega) m (by omega)).mono ?_
  rintro e w' ⟨h1, u, rfl, h2⟩
  rw [List.take_of_length_le (by omega)] at h2
  obtain ⟨a, c, rfl, h3, _⟩ := h2.ex
  subst hn
  exact ⟨h1, a, c, rfl, h3, h2⟩
set_option maxRecDepth 100000 in
set_option maxHeartbeats 4000000 in
theorem FrameNil_any {w : World} (hT : TabB w) (r v : Int) : Calls Tryd.prog 7 #[iv r, iv v] w fun e w' => e = .returned (.bool true) ∧ Below w.heap.size w w' := by
  have HA := hid (awake_holds hT)
  have HN := hid (Next_nil w r v)
  have HS := hid (fun W => stack_sl (w := W) (v := .pointer none) (q := []) (n := 0) (m := 9) (.inl ⟨rfl, rfl⟩) (by simp) (by omega) rfl)
  have d1 : (v == v) = true := by simp
  clear hT
  go_enter Tryd.func7, Tryd.ntmps7
  go_wp2_with (first
    | (go_at_call 11; refine HN.out.mono ?_; rintro e w3 ⟨rfl, hb3⟩; have HB3 := hid hb3; have HB4 := hid (below_setRow (hb3.alloc hb3.size (.cells (evA evZ) TEv)) w3.heap.size (evA ⟨5, 0, 0, 0, 12⟩) hb3.size); clear hb3)
    | ((with_reducible refine at_op ⟨none, .store TEv (.tmp 6) (.tmp 13), _, _, _, _⟩ ?_); refine wpList_store_row rfl TEv _ _ rfl w3.heap.size (evA ⟨5, 0, 0, 0, 12⟩) rfl rfl TEv (evA evZ) (heap_alloc_new _ _) szEv rfl (evA_one _) ?_)
    | ((with_reducible refine at_op ⟨some 15, _, _, _, _, _⟩ ?_); refine wpList_runW rfl (.agg (evA ⟨5, 0, 0, 0, 12⟩)) (load_ev rfl rfl (setRow_heap _ _ _ _ _ _ (heap_alloc_new _ _))) ?_)
    | ((with_reducible refine at_op ⟨some 17, _, _, _, _, _⟩ ?_); refine wpList_runW rfl (.bool true) (exec_eqEv (x := ⟨5, 0, 0, 0, 12⟩) (y := ⟨5, 0, 0, 0, 12⟩) rfl rfl rfl) ?_)
    | (go_at_call 13; refine (At_nil _).mono ?_; rintro e w5 ⟨rfl, hw5⟩; subst hw5)
    | (go_at_call 15; refine (HS.out _).mono ?_; rintro e w6 ⟨hb6, a6, c6, rfl, _, _⟩; have HB6 := hid (HB4.out.trans (hb6.mono HB4.out.size)); clear hb6)
    | (go_at_call 8; refine (HA.out _ HB6.out).mono ?_; rintro e w7 ⟨rfl, hb7⟩; have HB7 := hid (HB6.out.trans (hb7.mono HB6.out.size)); clear hb7)
    | fail)
  go_ret
  exact ⟨rfl, HB7.out⟩
end Go.Proofs.YtcoclaabainibaaDoor
