/-
  A ring and its twin, side by side; RingStops' walk.
-/
import Derived.Test.YtmkajdfajcodjabRgFrame
namespace Go.Proofs.Ytmkajdfajcodjab
open Go Go.ChangeShapes Go.WideShapes Go.ChangeAt Go.RowKit

/-- A ring, and the twin. -/
structure PrI (w0 w : World) (v vx : Value) (mo : Nat) (q1 q2 : List Int) : Prop where
  ex : ∃ S1 S2, RgIn S1 w v mo q1 ∧ RfIn S2 w vx mo q2 ∧ (∀ k, S1 k → w0.heap.size ≤ k) ∧ (∀ k, S2 k → w0.heap.size ≤ k) ∧ ∀ k, S1 k → ¬ S2 k
  bel : Below w0.heap.size w0 w
theorem RfIn.lt {S : Nat → Prop} {w : World} {v : Value} {most : Nat} {q : List Int} (h : RfIn S w v most q) : ∀ k, S k → k < w.heap.size := by
  obtain ⟨p, lv, rfl, h1⟩ := h
  exact h1.sl
section
variable {w0 w w' : World} {v vx : Value} {mo : Nat} {q1 q2 : List Int}
theorem PrI.no (h : PrI w0 w v vx mo q1 q2) (hf : Fr (fun _ => False) w w') : PrI w0 w' v vx mo q1 q2 := by
  obtain ⟨S1, S2, h1, h2, h3, h4, h5⟩ := h.ex
  exact ⟨⟨S1, S2, h1.no hf, h2.fr hf (fun _ _ e => e), h3, h4, h5⟩, h.bel.trans (hf.below h.bel.size (fun _ e => e.elim))⟩
theorem PrI.below (h : PrI w0 w v vx mo q1 q2) (hb : Below w.heap.size w w') : PrI w0 w' v vx mo q1 q2 := h.no (Fr.of_below hb)
theorem PrI.put1 (h : PrI w0 w v vx mo q1 q2) (x : Int) : Calls Try.prog 10 #[v, iv x] w fun e w' =>
    e = .returned (.int .i64 (if q1.length < mo then 0 else 3)) ∧ PrI w0 w' v vx mo (if q1.length < mo then q1 ++ [x] else q1) q2 := by
  obtain ⟨S1, S2, h1, h2, h3, h4, h5⟩ := h.ex
  refine (h1.put x).mono ?_
  rintro e w' ⟨he, h6, h7⟩
  exact ⟨he, ⟨_, S2, h6, h2.fr h7 (fun k hk e => h5 k e hk), ex_bound h3 h.bel.size, h4, fun k hk hk2 => by
    rcases hk with e | e
    · exact h5 k e hk2
    · have := h2.lt k hk2; omega⟩, h.bel.trans (h7.below h.bel.size h3)⟩
theorem PrI.take1 (h : PrI w0 w v vx mo q1 q2) : Calls Try.prog 12 #[v] w fun e w' =>
    e = .returned (.tuple #[iv (q1.headD 0), .int .i64 (if q1 = [] then 12 else 0)]) ∧ PrI w0 w' v vx mo q1.tail q2 := by
  obtain ⟨S1, S2, h1, h2, h3, h4, h5⟩ := h.ex
  refine h1.take.mono ?_
  rintro e w' ⟨he, h6, h7⟩
  exact ⟨he, ⟨_, S2, h6, h2.fr h7 (fun k hk e => h5 k e hk), ex_bound h3 h.bel.size, h4, fun k hk hk2 => by
    rcases hk with e | e
    · exact h5 k e hk2
    · have := h2.lt k hk2; omega⟩, h.bel.trans (h7.below h.bel.size h3)⟩
theorem PrI.put2 (h : PrI w0 w v vx mo q1 q2) (x : Int) : Calls Try.prog 11 #[vx, iv x] w fun e w' =>
    e = .returned (.bool (decide (q2.length < mo))) ∧ PrI w0 w' v vx mo q1 (if q2.length < mo then q2 ++ [x] else q2) := by
  obtain ⟨S1, S2, h1, h2, h3, h4, h5⟩ := h.ex
  refine (h2.put x).mono ?_
  rintro e w' ⟨he, h6, h7⟩
  exact ⟨he, ⟨S1, _, h1.fr h7 (fun k hk e => h5 k hk e), h6, h3, ex_bound h4 h.bel.size, fun k hk hk2 => by
    rcases hk2 with e | e
    · exact h5 k hk e
    · have := h1.lt k hk; omega⟩, h.bel.trans (h7.below h.bel.size h4)⟩
theorem PrI.take2 (h : PrI w0 w v vx mo q1 q2) : Calls Try.prog 13 #[vx] w fun e w' =>
    e = .returned (.tuple #[iv (q2.headD 0), .bool (decide (q2 ≠ []))]) ∧ PrI w0 w' v vx mo q1 q2.tail := by
  obtain ⟨S1, S2, h1, h2, h3, h4, h5⟩ := h.ex
  refine h2.take.mono ?_
  rintro e w' ⟨he, h6, h7⟩
  exact ⟨he, ⟨S1, _, h1.fr h7 (fun k hk e => h5 k hk e), h6, h3, ex_bound h4 h.bel.size, fun k hk hk2 => by
    rcases hk2 with e | e
    · exact h5 k hk e
    · have := h1.lt k hk; omega⟩, h.bel.trans (h7.below h.bel.size h4)⟩
theorem PrI.len (h : PrI w0 w v vx mo q1 q2) : Calls Try.prog 14 #[v] w fun e w' => e = .returned (nI q1.length) ∧ w = w' := by
  obtain ⟨S, _, h1, _⟩ := h.ex
  exact h1.len
theorem PrI.rdq (h : PrI w0 w v vx mo q1 q2) : RdQ w v q1 := by
  obtain ⟨S, _, h1, _⟩ := h.ex
  exact h1.rdq
theorem PrI.lim (h : PrI w0 w v vx mo q1 q2) : q1.length ≤ mo ∧ mo ≤ 65536 := by
  obtain ⟨S, _, h1, _⟩ := h.ex
  exact h1.lim
/-- What the twin has, in memory. -/
theorem PrI.tw (h : PrI w0 w v vx mo q1 q2) : ∃ px la lc, vx = .pointer (some ⟨px, 0, none⟩) ∧ (0 < q2.length → ∃ g, la = some ⟨g, 0, none⟩) ∧ q2.length ≤ lc ∧ ∀ W, Fr (fun _ => False) w W → W.cell? ⟨px, 1, none⟩ = some (.slice la q2.length lc) ∧ Tl iv W.heap.size W (.slice la q2.length lc) q2 := by
  obtain ⟨_, S2, _, h2, _⟩ := h.ex
  obtain ⟨px, lv, rfl, h1⟩ := h2
  obtain ⟨la, lc, hlv⟩ := own_form h1.row
  refine ⟨px, la, lc, rfl, fun hp => ?_, ?_, fun W hW => ?_⟩
  · obtain ⟨g, c, e, _⟩ := h1.row.form hp
    rw [hlv] at e
    cases e
    exact ⟨g, rfl⟩
  · have := h1.row
    rw [hlv] at this
    exact own_cap this
  · have h3 := h1.fr hW (fun _ _ e => e)
    have := own_told h3.row
    rw [hlv] at this
    exact ⟨by rw [← hlv]; exact h3.c1, this⟩
theorem at_low (v : Value) (w : World) (i : Int) (hi : i < 0) : Calls Try.prog 20 #[v, iv i] w fun e w' => e = .returned (.tuple #[.int .i64 0, .int .i64 12]) ∧ Fr (fun _ => False) w w' := by
  refine (At_low v w i hi).mono ?_
  rintro e w' ⟨he, rfl⟩
  exact ⟨he, Fr.refl _ _⟩
theorem PrI.at_high (h : PrI w0 w v vx mo q1 q2) (i : Int) (hi : (q1.length : Int) ≤ i) : Calls Try.prog 20 #[v, iv i] w fun e w' => e = .returned (.tuple #[.int .i64 0, .int .i64 12]) ∧ Fr (fun _ => False) w w' := by
  obtain ⟨S, _, ⟨p, m, first, cs, cv, rfl, h1⟩, _⟩ := h.ex
  refine (At_high h1 i hi).mono ?_
  rintro e w' ⟨he, rfl⟩
  exact ⟨he, Fr.refl _ _⟩
theorem PrI.at_some (h : PrI w0 w v vx mo q1 q2) {i : Nat} {x : Int} (hx : q1[i]? = some x) : Calls Try.prog 20 #[v, nI i] w fun e w' => e = .returned (.tuple #[iv x, .int .i64 0]) ∧ Fr (fun _ => False) w w' := by
  obtain ⟨S, _, ⟨p, m, first, cs, cv, rfl, h1⟩, _⟩ := h.ex
  exact At_some h1 hx
/-- Both, new. -/
theorem pair_new {w1 w2 : World} {mo : Int} (_h : 1 ≤ mo ∧ mo ≤ 65536) (hr : RgB w.heap.size w1 v mo.toNat []) (hb1 : Below w.heap.size w w1) (hb2 : Below w1.heap.size w1 w2) {S : Nat → Prop} (hS : ∀ b, S b → w1.heap.size ≤ b) (hx : RfIn S w2 vx mo.toNat []) : PrI w w2 v vx mo.toNat [] [] := by
  obtain ⟨S1, h1, h2⟩ := hr
  exact ⟨⟨S1, S, h2.below hb2, hx, h1, fun k hk => by have := hS k hk; have := hb1.size; omega, fun k hk e => by have := hS k e; have := h2.lt k hk; omega⟩, hb1.trans (hb2.mono hb1.size)⟩
end
/-- The first ones of a told row. -/
theorem Tl.cut {α : Type} {f : α → Value} {B : Nat} {W : World} {a : Option Addr} {n c m : Nat} {xs : List α} (h : Tl f B W (.slice a n c) xs) (hm : m ≤ xs.length) : Tl f B W (.slice a m c) (xs.take m) := by
  obtain ⟨a2, c2, h1, h2, h3, h4⟩ := h.ex
  simp only [Value.slice.injEq] at h1
  obtain ⟨rfl, rfl, rfl⟩ := h1
  have hl : (xs.take m).length = m := by rw [List.length_take]; omega
  refine ⟨a, c, by rw [hl], by rw [hl]; omega, h3, fun hp => ?_⟩
  rw [hl] at hp
  obtain ⟨b, o, h5, h6, h7⟩ := h4 (by omega)
  refine ⟨b, o, h5, h6, fun j u hu => h7 j u ?_⟩
  rw [List.getElem?_take] at hu
  split at hu
  · exact hu
  · cases hu
theorem exec_up {o : Oper} {f : Operand → Value} {W : World} {p h : Operand} {a : Option Addr} {n cap hi : Nat} (ho : o.op = .slice 22 p none (some h) none) (hp : f p = .slice a n cap) (hh : f h = .int .i64 hi) (h2 : hi ≤ n) (h3 : n ≤ cap) (ha : 0 < n → ∃ b oo, a = some ⟨b, oo, none⟩) :
    (execOp f o).run Try.prog W = .ok (.value (.slice a hi cap)) W := by
  cases a with
  | some ad =>
    obtain ⟨b, oo, ix⟩ := ad
    unfold execOp
    simp only [ho, hp]
    simp only [Option.map, hh]
    have h4 : hi ≤ cap := by omega
    go_simp
  | none =>
    have h0 : n = 0 := by
      by_cases h : 0 < n
      · obtain ⟨b, oo, e⟩ := ha h; cases e
      · omega
    have h4 : hi = 0 := by omega
    subst h0 h4
    unfold execOp
    simp only [ho, hp]
    simp only [Option.map, hh]
    go_simp
set_option maxRecDepth 100000 in
set_option maxHeartbeats 8000000 in
theorem RingStops_any (w : World) (sv : Value) (l : List Int) (stop at_ : Int) (hs : -9223372036854775808 ≤ stop ∧ stop ≤ 9223372036854775807) (hS : Tl iv w.heap.size w sv l) :
    Calls Try.prog 4 #[sv, .int .i64 stop, .int .i64 at_] w fun e w' => e = .returned (.bool true) ∧ Below w.heap.size w w' := by
  obtain ⟨sa, sc, rfl, hsc, hsc2, hat⟩ := hS.ex
  have HPK := hid (fun (n : Int) (W : World) h1 h2 => Pick_any stop n W hs h1 h2)
  have HNW := hid (Rnew_ok w 50 (by decide))
  have HNF := hid (fun W => RfNew_any W 50)
  obtain ⟨n, hn⟩ : ∃ n, n = l.length := ⟨_, rfl⟩
  rw [← hn] at hsc hat ⊢
  have HN := hid hn
  have HAT := hid hat
  have hcl : ∀ k : Nat, k ≤ 200 → IntKind.i64.wrap ((k : Int) + 1) = (k : Int) + 1 := fun k hk => IntWalk.i64_in _ (by omega)
  have HW := hid hcl
  clear hS hat hn hcl hs
  go_enter Try.func4, Try.ntmps4
  go_wp2_with fail
  refine HNW.out.mono ?_
  rintro e w1 ⟨hb1, v, rfl, h1⟩
  have H1 := hid h1
  have HB1 := hid hb1
  clear h1 hb1 HNW
  go_wp2_with fail
  refine (HNF.out w1).mono ?_
  rintro e w2 ⟨hb2, h2⟩
  rw [if_pos (by decide)] at h2
  obtain ⟨vx, S, rfl, hS2, hx⟩ := h2
  have hP0 := pair_new (mo := 50) (by decide) H1.out HB1.out hb2 hS2 hx
  obtain ⟨p, rfl⟩ := H1.out.ptr
  obtain ⟨px, lv, rfl, _⟩ := hx
  have HP := hid (show PrI w w2 (.pointer (some ⟨p, 0, none⟩)) (.pointer (some ⟨px, 0, none⟩)) 50 [] [] from hP0)
  clear hb2 hS2 hP0 H1 HB1 HNF
  go_wp2_with fail
  go_loopw [10] (fun i wr => ∃ (k : Nat) (q : List Int), k ≤ n ∧ k ≤ 200 ∧ i = .int .i64 k ∧ RowKit.Hid (PrI w wr (.pointer (some ⟨p, 0, none⟩)) (.pointer (some ⟨px, 0, none⟩)) 50 q q)) (fun i _ => 200 - (intOf i).toNat)
  case atStart => exact ⟨0, [], by omega, by omega, rfl, HP⟩
  case round =>
    obtain ⟨k, q, hkn, hk2, rfl, HI⟩ := hrel
    by_cases hgo : k < n ∧ k < 200
    · obtain ⟨hg1, hg2⟩ := hgo
      have hx : l[k]? = some (l[k]'(by rw [← HN.out]; exact hg1)) := List.getElem?_eq_getElem _
      generalize l[k]'(by rw [← HN.out]; exact hg1) = x at hx
      obtain ⟨b, o, rfl, hbl, hcs⟩ := HAT.out (by omega)
      have cx : wr.cell? ⟨b, o + k, none⟩ = some (iv x) := (World.cell?_of_block (w := w) (w' := wr) (a := ⟨b, o + k, none⟩) (HI.out.bel.block b hbl)).trans (hcs k x hx)
      have hwk := HW.out k (by omega)
      have HBL := hid hbl
      have HCX := hid (hcs k x hx)
      clear hx hcs hbl
      by_cases h0 : 0 ≤ x
      · have d0 : decide (0 ≤ x) = true := by simpa using h0
        have HP1 := hid (HI.out.put1 x)
        clear h0 HI
        go_wp2_with (first
          | (go_at_call 10; refine HP1.out.mono ?_; rintro e w5 ⟨rfl, h5⟩; have cx5 : w5.cell? ⟨b, o + k, none⟩ = some (iv x) := (World.cell?_of_block (w := w) (w' := w5) (a := ⟨b, o + k, none⟩) (h5.bel.block b HBL.out)).trans (HCX.out); have HP2 := hid (h5.put2 x); clear h5 HP1 cx)
          | (go_at_call 11; refine HP2.out.mono ?_; rintro e w6 ⟨rfl, h6⟩; have H6 := hid h6; clear h6 HP2 cx5)
          | fail)
        go_roundw
        case rel => exact ⟨k + 1, _, by omega, by omega, by go_num, H6⟩
        case measure => simp [intOf]; omega
      · have d0 : decide (0 ≤ x) = false := by simpa using h0
        have HP1 := hid (HI.out.take1)
        clear h0 HI
        go_wp2_with (first
          | (go_at_call 12; refine HP1.out.mono ?_; rintro e w5 ⟨rfl, h5⟩; have HP2 := hid (h5.take2); clear h5 HP1 cx)
          | (go_at_call 13; refine HP2.out.mono ?_; rintro e w6 ⟨rfl, h6⟩; have H6 := hid h6; clear h6 HP2)
          | fail)
        go_roundw
        case rel => exact ⟨k + 1, _, by omega, by omega, by go_num, H6⟩
        case measure => simp [intOf]; omega
    · by_cases hkl : k < n
      · have h200 : ¬ ((k : Int) < 200) := by omega
        have hn4 := hkn
        clear hgo
        obtain ⟨wA, hwA⟩ : ∃ x, x = wr := ⟨_, rfl⟩
        subst hwA
        obtain ⟨px', la, lc, hpx, hla, hlc, hTW⟩ := HI.out.tw
        cases hpx
        have c1A := (hTW wA (Fr.refl _ _)).1
        obtain ⟨N, hNe⟩ : ∃ N, N = q.length := ⟨_, rfl⟩
        have hlim := HI.out.lim
        rw [← hNe] at hla hlc hTW c1A hlim
        have hN5 : N ≤ 50 := hlim.1
        have hwN := IntWalk.i64_in ((N : Int) + 1) (by omega)
        obtain ⟨m, hm⟩ : ∃ m : Nat, stop % ((N : Int) + 1) = m := ⟨(stop % ((N : Int) + 1)).toNat, (Int.toNat_of_nonneg (Int.emod_nonneg _ (by omega))).symm⟩
        have hmN : m ≤ N := by have := Int.emod_lt_of_pos stop (show (0 : Int) < (N : Int) + 1 by omega); omega
        have HPn := hid (fun W => HPK.out ((N : Int) + 1) W (by omega) (by omega))
        have HNE := hid hNe
        have HTW := hid hTW
        have HM := hid hm
        have hla2 : 0 < N → ∃ b oo, la = some ⟨b, oo, none⟩ := fun h => by obtain ⟨g, e⟩ := hla h; exact ⟨g, 0, e⟩
        have HLA := hid hla2
        clear hTW hNe hlim hm hla hla2 HPK
        go_wp2_with fail
        refine (HPn.out wA).mono ?_
        rintro e w' ⟨rfl, rfl⟩
        rw [HM.out]
        go_wp2_with fail
        have hfd : Fr (fun _ => False) wA wA.drew := (Fr.refl _ _).drew
        have R1 := hid (row_told (HI.out.rdq.no hfd) m (by omega))
        refine D.wp_region_mix [0, 0, 2, 0, 0, 0, 1, 0, 0, 2, 0, 0, 0, 0, 2, 0, 0, 0, 1, 2, 0, 0, 2, 0, 0] (fun W => W.cell? ⟨px, 1, none⟩ = some (.slice la N lc)) (by kernel_rfl) (by kernel_rfl) c1A ?_
        repeat (first
          | (refine' C.wpMix_value _ rfl rfl _ _; rotate_left; (solve | (intro W; go_simp) | (intro W; go_simp; with_reducible rfl)); simp only [Act.put, List.setIfInBounds_toArray, List.set_cons_zero, List.set_cons_succ]))
        refine C.wpMix_call 16 #[.pointer (some ⟨p, 0, none⟩), .int .i64 m] (by decide) rfl (by go_simp) ?_
        refine R1.out.mono ?_
        rintro e W2 ⟨hb2, u2, rfl, t2⟩
        have hf2 : Fr (fun _ => False) wA W2 := hfd.trans (Fr.of_below hb2) (fun _ e _ => e)
        obtain ⟨c2, tl2⟩ := HTW.out W2 hf2
        refine ⟨_, rfl, fun _ => c2, ?_⟩
        simp only [Act.put, List.setIfInBounds_toArray, List.set_cons_zero, List.set_cons_succ]
        have S2 := hid (SameI_tl W2 _ _ (q.take m) t2 (tl2.cut (m := m) (by rw [← HNE.out]; exact hmN)))
        have HF2 := hid hf2
        clear hb2 t2 tl2 c2 hf2 R1
        repeat (first
          | (refine' C.wpMix_value _ rfl rfl _ _; rotate_left; (solve | (intro W; go_simp) | (intro W; go_simp; with_reducible rfl)); simp only [Act.put, List.setIfInBounds_toArray, List.set_cons_zero, List.set_cons_succ])
          | (refine C.wpMix_value (.slice la m lc) rfl rfl (fun W => exec_up rfl rfl rfl hmN hlc HLA.out) ?_; simp only [Act.put, List.setIfInBounds_toArray, List.set_cons_zero, List.set_cons_succ])
          | (refine' C.wpMix_read _ rfl rfl _ _; rotate_left; (solve | (rintro W h1; go_simp) | (rintro W h1; go_simp; with_reducible rfl)); simp only [Act.put, List.setIfInBounds_toArray, List.set_cons_zero, List.set_cons_succ]))
        refine C.wpMix_call 15 #[u2, .slice la m lc] (by decide) rfl (by go_simp) ?_
        refine S2.out.mono ?_
        rintro e W3 ⟨rfl, hb3⟩
        have hf3 : Fr (fun _ => False) wA W3 := HF2.out.trans (Fr.of_below hb3) (fun _ e _ => e)
        refine ⟨_, rfl, fun _ => (HTW.out W3 hf3).1, ?_⟩
        simp only [Act.put, List.setIfInBounds_toArray, List.set_cons_zero, List.set_cons_succ]
        have R3 := hid (back_told (HI.out.rdq.no hf3) m (by omega))
        have HF3 := hid hf3
        clear hb3 hf3 S2 HF2
        repeat (first
          | (refine' C.wpMix_value _ rfl rfl _ _; rotate_left; (solve | (intro W; go_simp) | (intro W; go_simp; with_reducible rfl)); simp only [Act.put, List.setIfInBounds_toArray, List.set_cons_zero, List.set_cons_succ]))
        refine C.wpMix_call 17 #[.pointer (some ⟨p, 0, none⟩), .int .i64 m] (by decide) rfl (by go_simp) ?_
        refine R3.out.mono ?_
        rintro e W4 ⟨hb4, u4, rfl, t4⟩
        have hf4 : Fr (fun _ => False) wA W4 := HF3.out.trans (Fr.of_below hb4) (fun _ e _ => e)
        obtain ⟨c4, tl4⟩ := HTW.out W4 hf4
        refine ⟨_, rfl, fun _ => c4, ?_⟩
        simp only [Act.put, List.setIfInBounds_toArray, List.set_cons_zero, List.set_cons_succ]
        have T4 := hid (turned_any tl4 (by rw [← HNE.out]; omega))
        have HT4 := hid t4
        have HF4 := hid hf4
        clear hb4 t4 tl4 c4 hf4 R3 HF3
        repeat (first
          | (refine' C.wpMix_value _ rfl rfl _ _; rotate_left; (solve | (intro W; go_simp) | (intro W; go_simp; with_reducible rfl)); simp only [Act.put, List.setIfInBounds_toArray, List.set_cons_zero, List.set_cons_succ])
          | (refine' C.wpMix_read _ rfl rfl _ _; rotate_left; (solve | (rintro W h1; go_simp) | (rintro W h1; go_simp; with_reducible rfl)); simp only [Act.put, List.setIfInBounds_toArray, List.set_cons_zero, List.set_cons_succ]))
        refine C.wpMix_call 18 #[.slice la N lc] (by decide) rfl (by go_simp) ?_
        refine T4.out.mono ?_
        rintro e W5 ⟨hb5, u5, rfl, t5⟩
        have hf5 : Fr (fun _ => False) wA W5 := HF4.out.trans (Fr.of_below hb5) (fun _ e _ => e)
        refine ⟨_, rfl, fun _ => (HTW.out W5 hf5).1, ?_⟩
        simp only [Act.put, List.setIfInBounds_toArray, List.set_cons_zero, List.set_cons_succ]
        obtain ⟨ra, rc, hu5, hrc, _, hrx⟩ := t5.ex
        rw [List.length_reverse, ← HNE.out] at hu5 hrc hrx
        subst hu5
        have hra : 0 < N → ∃ b oo, ra = some ⟨b, oo, none⟩ := fun h => by obtain ⟨g, o, e, _⟩ := hrx h; exact ⟨g, o, e⟩
        have S5 := hid (SameI_tl W5 _ _ (q.reverse.take m) ((HT4.out.below hb5).up hb5.size) (t5.cut (m := m) (by rw [List.length_reverse, ← HNE.out]; exact hmN)))
        have HF5 := hid hf5
        have HRA := hid hra
        clear hb5 t5 hf5 hra hrx HT4 HF4 T4
        repeat (first
          | (refine' C.wpMix_value _ rfl rfl _ _; rotate_left; (solve | (intro W; go_simp) | (intro W; go_simp; with_reducible rfl)); simp only [Act.put, List.setIfInBounds_toArray, List.set_cons_zero, List.set_cons_succ])
          | (refine C.wpMix_value (.slice ra m rc) rfl rfl (fun W => exec_up rfl rfl rfl hmN hrc HRA.out) ?_; simp only [Act.put, List.setIfInBounds_toArray, List.set_cons_zero, List.set_cons_succ]))
        refine C.wpMix_call 15 #[u4, .slice ra m rc] (by decide) rfl (by go_simp) ?_
        refine S5.out.mono ?_
        rintro e W6 ⟨rfl, hb6⟩
        have hf6 : Fr (fun _ => False) wA W6 := HF5.out.trans (Fr.of_below hb6) (fun _ e _ => e)
        refine ⟨_, rfl, fun _ => (HTW.out W6 hf6).1, ?_⟩
        simp only [Act.put, List.setIfInBounds_toArray, List.set_cons_zero, List.set_cons_succ]
        have HF6 := hid hf6
        have HI6 := hid (HI.out.no hf6)
        clear hb6 hf6 S5 HF5 HI
        repeat (first
          | (refine' C.wpMix_value _ rfl rfl _ _; rotate_left; (solve | (intro W; go_simp) | (intro W; go_simp; with_reducible rfl)); simp only [Act.put, List.setIfInBounds_toArray, List.set_cons_zero, List.set_cons_succ]))
        refine C.wpMix_end ?_
        by_cases ha0 : at_ < 0
        · have d1 : decide (at_ < 0) = true := by simpa using ha0
          have HAtC := hid (at_low (.pointer (some ⟨p, 0, none⟩)) W6 at_ ha0)
          clear ha0 c1A
          go_wp2_with (first
            | (go_at_call 20; refine HAtC.out.mono ?_; rintro e W7 ⟨rfl, hf7⟩; have HF7 := hid hf7; clear hf7 HAtC)
            | (go_at_call 9; refine (awake_any _).mono ?_; rintro e W8 ⟨rfl, hb8⟩; have HI7 := (HI6.out.no HF7.out).bel; have HB8 := hid (HI7.trans (hb8.mono HI7.size)); clear hb8 HI7)
            | fail)
          go_ret
          exact ⟨rfl, HB8.out⟩
        · have d1 : decide (at_ < 0) = false := by simpa using ha0
          by_cases haN : (N : Int) ≤ at_
          · have d2 : decide ((N : Int) ≤ at_) = true := by simpa using haN
            have HAtC := hid (HI6.out.at_high at_ (by rw [← HNE.out]; exact haN))
            clear ha0 haN c1A
            go_wp2_with (first
              | (go_at_call 20; refine HAtC.out.mono ?_; rintro e W7 ⟨rfl, hf7⟩; have c7 := (HTW.out W7 (HF6.out.trans hf7 (fun _ e _ => e))).1; have HF7 := hid hf7; clear hf7 HAtC)
              | (go_at_call 9; refine (awake_any _).mono ?_; rintro e W8 ⟨rfl, hb8⟩; have HI7 := (HI6.out.no HF7.out).bel; have HB8 := hid (HI7.trans (hb8.mono HI7.size)); clear hb8 HI7)
              | fail)
            go_ret
            exact ⟨rfl, HB8.out⟩
          · obtain ⟨i, rfl⟩ : ∃ i : Nat, at_ = (i : Int) := ⟨at_.toNat, by omega⟩
            have hiN : i < N := by omega
            have hil : i < q.length := by rw [← HNE.out]; exact hiN
            have hx : q[i]? = some q[i] := List.getElem?_eq_getElem hil
            generalize q[i] = y at hx
            have d2 : decide (N ≤ i) = false := by simpa using hiN
            have HAtC := hid (HI6.out.at_some hx)
            have HX := hid hx
            clear ha0 haN hil hx d1 c1A
            go_wp2_with (first
              | (go_at_call 20; refine HAtC.out.mono ?_; rintro e W7 ⟨rfl, hf7⟩; have h7 := HTW.out W7 (HF6.out.trans hf7 (fun _ e _ => e)); have c7 := h7.1; obtain ⟨a7, k7, e7, _, _, hc7⟩ := h7.2.ex; simp only [Value.slice.injEq] at e7; obtain ⟨rfl, e8, rfl⟩ := e7; rw [← e8] at hc7; obtain ⟨g7, o7, rfl, _, hx7⟩ := hc7 (by omega); have cx7 := hx7 i y HX.out; have HF7 := hid hf7; clear hf7 HAtC h7 hc7 hx7 e8)
              | (go_at_call 9; refine (awake_any _).mono ?_; rintro e W8 ⟨rfl, hb8⟩; have HI7 := (HI6.out.no HF7.out).bel; have HB8 := hid (HI7.trans (hb8.mono HI7.size)); clear hb8 HI7)
              | fail)
            go_ret
            exact ⟨rfl, HB8.out⟩
      · have hn1 : ¬ (k < n) := hkl
        have hn4 := hkn
        clear hgo
        obtain ⟨wA, hwA⟩ : ∃ x, x = wr := ⟨_, rfl⟩
        subst hwA
        obtain ⟨px', la, lc, hpx, hla, hlc, hTW⟩ := HI.out.tw
        cases hpx
        have c1A := (hTW wA (Fr.refl _ _)).1
        obtain ⟨N, hNe⟩ : ∃ N, N = q.length := ⟨_, rfl⟩
        have hlim := HI.out.lim
        rw [← hNe] at hla hlc hTW c1A hlim
        have hN5 : N ≤ 50 := hlim.1
        have hwN := IntWalk.i64_in ((N : Int) + 1) (by omega)
        obtain ⟨m, hm⟩ : ∃ m : Nat, stop % ((N : Int) + 1) = m := ⟨(stop % ((N : Int) + 1)).toNat, (Int.toNat_of_nonneg (Int.emod_nonneg _ (by omega))).symm⟩
        have hmN : m ≤ N := by have := Int.emod_lt_of_pos stop (show (0 : Int) < (N : Int) + 1 by omega); omega
        have HPn := hid (fun W => HPK.out ((N : Int) + 1) W (by omega) (by omega))
        have HNE := hid hNe
        have HTW := hid hTW
        have HM := hid hm
        have hla2 : 0 < N → ∃ b oo, la = some ⟨b, oo, none⟩ := fun h => by obtain ⟨g, e⟩ := hla h; exact ⟨g, 0, e⟩
        have HLA := hid hla2
        clear hTW hNe hlim hm hla hla2 HPK
        go_wp2_with fail
        refine (HPn.out wA).mono ?_
        rintro e w' ⟨rfl, rfl⟩
        rw [HM.out]
        go_wp2_with fail
        have hfd : Fr (fun _ => False) wA wA.drew := (Fr.refl _ _).drew
        have R1 := hid (row_told (HI.out.rdq.no hfd) m (by omega))
        refine D.wp_region_mix [0, 0, 2, 0, 0, 0, 1, 0, 0, 2, 0, 0, 0, 0, 2, 0, 0, 0, 1, 2, 0, 0, 2, 0, 0] (fun W => W.cell? ⟨px, 1, none⟩ = some (.slice la N lc)) (by kernel_rfl) (by kernel_rfl) c1A ?_
        repeat (first
          | (refine' C.wpMix_value _ rfl rfl _ _; rotate_left; (solve | (intro W; go_simp) | (intro W; go_simp; with_reducible rfl)); simp only [Act.put, List.setIfInBounds_toArray, List.set_cons_zero, List.set_cons_succ]))
        refine C.wpMix_call 16 #[.pointer (some ⟨p, 0, none⟩), .int .i64 m] (by decide) rfl (by go_simp) ?_
        refine R1.out.mono ?_
        rintro e W2 ⟨hb2, u2, rfl, t2⟩
        have hf2 : Fr (fun _ => False) wA W2 := hfd.trans (Fr.of_below hb2) (fun _ e _ => e)
        obtain ⟨c2, tl2⟩ := HTW.out W2 hf2
        refine ⟨_, rfl, fun _ => c2, ?_⟩
        simp only [Act.put, List.setIfInBounds_toArray, List.set_cons_zero, List.set_cons_succ]
        have S2 := hid (SameI_tl W2 _ _ (q.take m) t2 (tl2.cut (m := m) (by rw [← HNE.out]; exact hmN)))
        have HF2 := hid hf2
        clear hb2 t2 tl2 c2 hf2 R1
        repeat (first
          | (refine' C.wpMix_value _ rfl rfl _ _; rotate_left; (solve | (intro W; go_simp) | (intro W; go_simp; with_reducible rfl)); simp only [Act.put, List.setIfInBounds_toArray, List.set_cons_zero, List.set_cons_succ])
          | (refine C.wpMix_value (.slice la m lc) rfl rfl (fun W => exec_up rfl rfl rfl hmN hlc HLA.out) ?_; simp only [Act.put, List.setIfInBounds_toArray, List.set_cons_zero, List.set_cons_succ])
          | (refine' C.wpMix_read _ rfl rfl _ _; rotate_left; (solve | (rintro W h1; go_simp) | (rintro W h1; go_simp; with_reducible rfl)); simp only [Act.put, List.setIfInBounds_toArray, List.set_cons_zero, List.set_cons_succ]))
        refine C.wpMix_call 15 #[u2, .slice la m lc] (by decide) rfl (by go_simp) ?_
        refine S2.out.mono ?_
        rintro e W3 ⟨rfl, hb3⟩
        have hf3 : Fr (fun _ => False) wA W3 := HF2.out.trans (Fr.of_below hb3) (fun _ e _ => e)
        refine ⟨_, rfl, fun _ => (HTW.out W3 hf3).1, ?_⟩
        simp only [Act.put, List.setIfInBounds_toArray, List.set_cons_zero, List.set_cons_succ]
        have R3 := hid (back_told (HI.out.rdq.no hf3) m (by omega))
        have HF3 := hid hf3
        clear hb3 hf3 S2 HF2
        repeat (first
          | (refine' C.wpMix_value _ rfl rfl _ _; rotate_left; (solve | (intro W; go_simp) | (intro W; go_simp; with_reducible rfl)); simp only [Act.put, List.setIfInBounds_toArray, List.set_cons_zero, List.set_cons_succ]))
        refine C.wpMix_call 17 #[.pointer (some ⟨p, 0, none⟩), .int .i64 m] (by decide) rfl (by go_simp) ?_
        refine R3.out.mono ?_
        rintro e W4 ⟨hb4, u4, rfl, t4⟩
        have hf4 : Fr (fun _ => False) wA W4 := HF3.out.trans (Fr.of_below hb4) (fun _ e _ => e)
        obtain ⟨c4, tl4⟩ := HTW.out W4 hf4
        refine ⟨_, rfl, fun _ => c4, ?_⟩
        simp only [Act.put, List.setIfInBounds_toArray, List.set_cons_zero, List.set_cons_succ]
        have T4 := hid (turned_any tl4 (by rw [← HNE.out]; omega))
        have HT4 := hid t4
        have HF4 := hid hf4
        clear hb4 t4 tl4 c4 hf4 R3 HF3
        repeat (first
          | (refine' C.wpMix_value _ rfl rfl _ _; rotate_left; (solve | (intro W; go_simp) | (intro W; go_simp; with_reducible rfl)); simp only [Act.put, List.setIfInBounds_toArray, List.set_cons_zero, List.set_cons_succ])
          | (refine' C.wpMix_read _ rfl rfl _ _; rotate_left; (solve | (rintro W h1; go_simp) | (rintro W h1; go_simp; with_reducible rfl)); simp only [Act.put, List.setIfInBounds_toArray, List.set_cons_zero, List.set_cons_succ]))
        refine C.wpMix_call 18 #[.slice la N lc] (by decide) rfl (by go_simp) ?_
        refine T4.out.mono ?_
        rintro e W5 ⟨hb5, u5, rfl, t5⟩
        have hf5 : Fr (fun _ => False) wA W5 := HF4.out.trans (Fr.of_below hb5) (fun _ e _ => e)
        refine ⟨_, rfl, fun _ => (HTW.out W5 hf5).1, ?_⟩
        simp only [Act.put, List.setIfInBounds_toArray, List.set_cons_zero, List.set_cons_succ]
        obtain ⟨ra, rc, hu5, hrc, _, hrx⟩ := t5.ex
        rw [List.length_reverse, ← HNE.out] at hu5 hrc hrx
        subst hu5
        have hra : 0 < N → ∃ b oo, ra = some ⟨b, oo, none⟩ := fun h => by obtain ⟨g, o, e, _⟩ := hrx h; exact ⟨g, o, e⟩
        have S5 := hid (SameI_tl W5 _ _ (q.reverse.take m) ((HT4.out.below hb5).up hb5.size) (t5.cut (m := m) (by rw [List.length_reverse, ← HNE.out]; exact hmN)))
        have HF5 := hid hf5
        have HRA := hid hra
        clear hb5 t5 hf5 hra hrx HT4 HF4 T4
        repeat (first
          | (refine' C.wpMix_value _ rfl rfl _ _; rotate_left; (solve | (intro W; go_simp) | (intro W; go_simp; with_reducible rfl)); simp only [Act.put, List.setIfInBounds_toArray, List.set_cons_zero, List.set_cons_succ])
          | (refine C.wpMix_value (.slice ra m rc) rfl rfl (fun W => exec_up rfl rfl rfl hmN hrc HRA.out) ?_; simp only [Act.put, List.setIfInBounds_toArray, List.set_cons_zero, List.set_cons_succ]))
        refine C.wpMix_call 15 #[u4, .slice ra m rc] (by decide) rfl (by go_simp) ?_
        refine S5.out.mono ?_
        rintro e W6 ⟨rfl, hb6⟩
        have hf6 : Fr (fun _ => False) wA W6 := HF5.out.trans (Fr.of_below hb6) (fun _ e _ => e)
        refine ⟨_, rfl, fun _ => (HTW.out W6 hf6).1, ?_⟩
        simp only [Act.put, List.setIfInBounds_toArray, List.set_cons_zero, List.set_cons_succ]
        have HF6 := hid hf6
        have HI6 := hid (HI.out.no hf6)
        clear hb6 hf6 S5 HF5 HI
        repeat (first
          | (refine' C.wpMix_value _ rfl rfl _ _; rotate_left; (solve | (intro W; go_simp) | (intro W; go_simp; with_reducible rfl)); simp only [Act.put, List.setIfInBounds_toArray, List.set_cons_zero, List.set_cons_succ]))
        refine C.wpMix_end ?_
        by_cases ha0 : at_ < 0
        · have d1 : decide (at_ < 0) = true := by simpa using ha0
          have HAtC := hid (at_low (.pointer (some ⟨p, 0, none⟩)) W6 at_ ha0)
          clear ha0 c1A
          go_wp2_with (first
            | (go_at_call 20; refine HAtC.out.mono ?_; rintro e W7 ⟨rfl, hf7⟩; have HF7 := hid hf7; clear hf7 HAtC)
            | (go_at_call 9; refine (awake_any _).mono ?_; rintro e W8 ⟨rfl, hb8⟩; have HI7 := (HI6.out.no HF7.out).bel; have HB8 := hid (HI7.trans (hb8.mono HI7.size)); clear hb8 HI7)
            | fail)
          go_ret
          exact ⟨rfl, HB8.out⟩
        · have d1 : decide (at_ < 0) = false := by simpa using ha0
          by_cases haN : (N : Int) ≤ at_
          · have d2 : decide ((N : Int) ≤ at_) = true := by simpa using haN
            have HAtC := hid (HI6.out.at_high at_ (by rw [← HNE.out]; exact haN))
            clear ha0 haN c1A
            go_wp2_with (first
              | (go_at_call 20; refine HAtC.out.mono ?_; rintro e W7 ⟨rfl, hf7⟩; have c7 := (HTW.out W7 (HF6.out.trans hf7 (fun _ e _ => e))).1; have HF7 := hid hf7; clear hf7 HAtC)
              | (go_at_call 9; refine (awake_any _).mono ?_; rintro e W8 ⟨rfl, hb8⟩; have HI7 := (HI6.out.no HF7.out).bel; have HB8 := hid (HI7.trans (hb8.mono HI7.size)); clear hb8 HI7)
              | fail)
            go_ret
            exact ⟨rfl, HB8.out⟩
          · obtain ⟨i, rfl⟩ : ∃ i : Nat, at_ = (i : Int) := ⟨at_.toNat, by omega⟩
            have hiN : i < N := by omega
            have hil : i < q.length := by rw [← HNE.out]; exact hiN
            have hx : q[i]? = some q[i] := List.getElem?_eq_getElem hil
            generalize q[i] = y at hx
            have d2 : decide (N ≤ i) = false := by simpa using hiN
            have HAtC := hid (HI6.out.at_some hx)
            have HX := hid hx
            clear ha0 haN hil hx d1 c1A
            go_wp2_with (first
              | (go_at_call 20; refine HAtC.out.mono ?_; rintro e W7 ⟨rfl, hf7⟩; have h7 := HTW.out W7 (HF6.out.trans hf7 (fun _ e _ => e)); have c7 := h7.1; obtain ⟨a7, k7, e7, _, _, hc7⟩ := h7.2.ex; simp only [Value.slice.injEq] at e7; obtain ⟨rfl, e8, rfl⟩ := e7; rw [← e8] at hc7; obtain ⟨g7, o7, rfl, _, hx7⟩ := hc7 (by omega); have cx7 := hx7 i y HX.out; have HF7 := hid hf7; clear hf7 HAtC h7 hc7 hx7 e8)
              | (go_at_call 9; refine (awake_any _).mono ?_; rintro e W8 ⟨rfl, hb8⟩; have HI7 := (HI6.out.no HF7.out).bel; have HB8 := hid (HI7.trans (hb8.mono HI7.size)); clear hb8 HI7)
              | fail)
            go_ret
            exact ⟨rfl, HB8.out⟩
end Go.Proofs.Ytmkajdfajcodjab
