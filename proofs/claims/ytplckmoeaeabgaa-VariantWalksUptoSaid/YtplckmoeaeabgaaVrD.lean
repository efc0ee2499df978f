/-
  The contract of the plain twin's Check (layer 6).
-/
import Derived.Test.YtplckmoeaeabgaaVrC
namespace Go.Proofs.Ytplckmoeaeabgaa
open Go Go.ChangeShapes Go.WideShapes Go.ChangeAt Go.RowKit

set_option maxRecDepth 100000 in
theorem chkL_at {f : Vr → Int} : ∀ {l : List Vr} {q : Nat} {x : Vr}, (∀ j y, j < q → l[j]? = some y → f y = 0) → l[q]? = some x → f x ≠ 0 → chkL f l = f x
  | y :: l, 0, x, _, hx, h0 => by
    simp at hx; subst hx
    unfold chkL; rw [if_pos h0]
  | y :: l, q + 1, x, h, hx, h0 => by
    have hy : f y = 0 := h 0 y (by omega) (by simp)
    unfold chkL
    rw [if_neg (by simpa using hy)]
    exact chkL_at (q := q) (fun j z hj hz => h (j + 1) z (by omega) (by simpa using hz)) (by simpa using hx) h0
set_option maxRecDepth 100000 in
theorem chkL_all {f : Vr → Int} {l : List Vr} (h : ∀ (j : Nat) y, l[j]? = some y → f y = 0) : chkL f l = 0 := chkL_zero.2 fun x hx => by
  obtain ⟨i, hi⟩ := List.mem_iff_getElem?.1 hx
  exact h i x hi
set_option maxRecDepth 100000 in
/-- The cells of a boxed value. -/
theorem box_cells {W : World} {bx t : Nat} {k n : Int} {bs : ByteArray} {a : Option Addr} {L c : Nat} (h : W.heap[bx]? = some (.cells #[.int .i64 k, .int .i64 n, .string bs, .slice a L c] t (0, 0))) :
    W.cell? ⟨bx, 0, none⟩ = some (.int .i64 k) ∧ W.cell? ⟨bx, 1, none⟩ = some (.int .i64 n) ∧ W.cell? ⟨bx, 2, none⟩ = some (.string bs) ∧ W.cell? ⟨bx, 3, none⟩ = some (.slice a L c) :=
  ⟨by rw [cell_of_row W bx 0 _ t _ h]; rfl, by rw [cell_of_row W bx 1 _ t _ h]; rfl, by rw [cell_of_row W bx 2 _ t _ h]; rfl, by rw [cell_of_row W bx 3 _ t _ h]; rfl⟩
set_option maxRecDepth 100000 in
/-- The cells of a value in a row. -/
theorem row_cells {W : World} {b o : Nat} {c0 c1 c2 c3 : Value} (h : AtL W b o [c0, c1, c2, c3]) : W.cell? ⟨b, o, none⟩ = some c0 ∧ W.cell? ⟨b, o + 1, none⟩ = some c1 ∧ W.cell? ⟨b, o + 2, none⟩ = some c2 ∧ W.cell? ⟨b, o + 3, none⟩ = some c3 :=
  ⟨h 0 _ rfl, h 1 _ rfl, h 2 _ rfl, h 3 _ rfl⟩
set_option maxHeartbeats 2000000 in
set_option maxRecDepth 100000 in
theorem Check_any : ∀ (m : Nat) (v : Vr) (cs : List Value) (w : World), m ≤ 8 → VIn w w.heap.size v cs → Calls Try.prog 10 #[.agg cs.toArray, .int .i64 (9 - (m : Int))] w fun e w' => e = .returned (.int .i64 (chk m v)) ∧ Below w.heap.size w w'
  | 0, v, cs, w, _, h => by
    obtain ⟨a, c, rfl, _⟩ := h.open
    have HB := hid ((Below.refl w.heap.size w).alloc (Nat.le_refl _))
    have hd : (9 - ((0 : Nat) : Int)) = 9 := by omega
    rw [hd]
    clear h hd
    go_enter Try.func10, Try.ntmps10
    go_wp2
    go_ret
    exact ⟨rfl, HB.out _⟩
  | m + 1, v, cs, w, hm, h => by
    obtain ⟨a, c, rfl, hc, h0, hs, _, _, hp⟩ := h.open
    obtain ⟨d, hd⟩ : ∃ d : Int, d = 9 - ((m + 1 : Nat) : Int) := ⟨_, rfl⟩
    rw [← hd]
    have hd8 : d ≤ 8 := by omega
    have hd1 : 0 ≤ d := by omega
    have hdd : decide (8 < d) = false := by simp; omega
    have ih := fun x cx W => Check_any m x cx W (by omega)
    have hd2 : d + 1 = 9 - (m : Int) := by omega
    rw [← hd2] at ih
    have IH := hid ih
    have HP := hid hp
    have HFM := hid (fun W => form_any W v a c)
    obtain ⟨L, hL⟩ : ∃ L, L = v.l.length := ⟨_, rfl⟩
    rw [← hL] at hc HFM ⊢
    have HL := hid hL
    have HSZ := hid (strI_size v.s)
    have HCK := hid (show chk (m + 1) v = if formV v = false then 5 else if 256 < v.s.length ∨ 64 < v.l.length then 20 else chkL (chk m) v.l from rfl)
    rw [← hL] at HCK
    generalize strI v.s = bs at *
    generalize v.k = k at *
    generalize v.n = n at *
    have hbw : Below w.heap.size w (w.alloc (.cells #[.int .i64 k, .int .i64 n, .string bs, .slice a L c] 24)) := (Below.refl _ _).alloc (Nat.le_refl _) _
    have hbx : (w.alloc (.cells #[.int .i64 k, .int .i64 n, .string bs, .slice a L c] 24)).heap[w.heap.size]? = some (.cells #[.int .i64 k, .int .i64 n, .string bs, .slice a L c] 24 (0, 0)) := heap_alloc_new _ _
    have hsz : w.heap.size < (w.alloc (.cells #[.int .i64 k, .int .i64 n, .string bs, .slice a L c] 24)).heap.size := by simp
    have HBW := hid hbw
    have HBX := hid hbx
    clear h h0 hs hp hL ih hd hd2 hbw hbx
    go_enter Try.func10, Try.ntmps10
    go_wp2_with fail
    obtain ⟨w1, hw1⟩ : ∃ w1, w1 = w.alloc (.cells #[.int .i64 k, .int .i64 n, .string bs, .slice a L c] 24) := ⟨_, rfl⟩
    obtain ⟨bx, hbq⟩ : ∃ bx, bx = w.heap.size := ⟨_, rfl⟩
    rw [← hw1] at HBW HBX hsz ⊢
    rw [← hbq] at HBX hsz ⊢
    have HQ := hid hbq
    clear hw1 hbq
    refine (HFM.out w1).mono ?_
    rintro e w2 ⟨rfl, hb2⟩
    have hx2 := (hb2.block bx hsz).trans HBX.out
    have HX2 := hid hx2
    have HB2 := hid (HBW.out.trans (hb2.mono HBW.out.size))
    obtain ⟨c0, c1, c2, c3⟩ := box_cells hx2
    clear hb2 hx2 HBX hsz HFM
    cases hf : formV v with
    | false =>
      have HR := hid (show chk (m + 1) v = 5 by rw [HCK.out, hf]; rfl)
      clear hf HCK
      go_wp2
      go_ret
      exact ⟨ret_int HR.out.symm, HB2.out⟩
    | true =>
      rw [hf, if_neg (by simp)] at HCK
      clear hf
      by_cases hbig : 256 < v.s.length ∨ 64 < L
      · have HR := hid (show chk (m + 1) v = 20 by rw [HCK.out, if_pos hbig])
        clear HCK
        by_cases h1 : 256 < v.s.length
        · have d1 : decide ((256 : Int) < (bs.size : Int)) = true := by have := HSZ.out; simp; omega
          clear hbig
          go_wp2
          go_ret
          exact ⟨ret_int HR.out.symm, HB2.out⟩
        · have d1 : decide ((256 : Int) < (bs.size : Int)) = false := by have := HSZ.out; simp; omega
          have d2 : decide ((64 : Int) < (L : Int)) = true := by simp; omega
          clear hbig
          go_wp2
          go_ret
          exact ⟨ret_int HR.out.symm, HB2.out⟩
      · have d1 : decide ((256 : Int) < (bs.size : Int)) = false := by have := HSZ.out; simp; omega
        have d2 : decide ((64 : Int) < (L : Int)) = false := by simp; omega
        have hL64 : L ≤ 64 := by omega
        rw [if_neg hbig] at HCK
        clear hbig
        go_wp2
        clear d1 d2 c0 c1 c2 c3
        go_loopw [5] (fun i wr => ∃ q : Nat, q ≤ L ∧ i = .int .i64 q ∧ RowKit.Hid (∀ j y, j < q → v.l[j]? = some y → chk m y = 0) ∧ RowKit.Hid (Below w.heap.size w wr) ∧ RowKit.Hid (wr.heap[bx]? = some (.cells #[.int .i64 k, .int .i64 n, .string bs, .slice a L c] 24 (0, 0)))) (fun i _ => L - (intOf i).toNat)
        case atStart => exact ⟨0, by omega, rfl, hid (fun j y hj => absurd hj (by omega)), HB2, HX2⟩
        case round =>
          obtain ⟨q, hq, rfl, HZ, HBr, HXr⟩ := hrel
          obtain ⟨c0, c1, c2, c3⟩ := box_cells HXr.out
          by_cases hqL : q < L
          · have hx : v.l[q]? = some (v.l[q]'(by rw [← HL.out]; exact hqL)) := List.getElem?_eq_getElem _
            generalize v.l[q]'(by rw [← HL.out]; exact hqL) = x at hx
            obtain ⟨b, o, cx, rfl, hb, hat, hxin⟩ := HP.out q x hx
            have hxr := VIn.kept hxin HBr.out
            have hin := VIn.mono HBr.out.size hxr
            obtain ⟨ax, kx, rfl, _⟩ := hin.open
            have hat2 : AtL wr b (o + q * 4) _ := hat.below HBr.out
            obtain ⟨e0, e1, e2, e3⟩ := row_cells hat2
            have HIX := hid (IH.out x _ wr hin)
            have HX := hid hx
            clear hx hat hat2 hxin hxr hin
            go_wp2_with fail
            refine HIX.out.mono ?_
            rintro e w5 ⟨rfl, hb5⟩
            have HB5 := hid (HBr.out.trans (hb5.mono HBr.out.size))
            have HX5 := hid ((hb5.block bx (lt_of_heap HXr.out)).trans HXr.out)
            clear hb5 e0 e1 e2 e3
            by_cases hz : chk m x = 0
            · have hzz : (chk m x != 0) = false := by simpa using hz
              have HZX := hid hz
              clear hz
              go_wp2
              go_roundw
              case rel => exact ⟨q + 1, by omega, by go_num, hid (fun j y hj hy => by
                by_cases ej : j = q
                · subst ej
                  rw [HX.out] at hy; cases hy
                  exact HZX.out
                · exact HZ.out j y (by omega) hy), HB5, HX5⟩
              case measure => simp [intOf]; omega
            · have hzz : (chk m x != 0) = true := by simpa using hz
              have HR := hid (show chk (m + 1) v = chk m x by rw [HCK.out]; exact chkL_at HZ.out HX.out hz)
              clear hz
              go_wp2
              go_ret
              exact ⟨ret_int HR.out.symm, HB5.out⟩
          · obtain rfl : q = L := by omega
            have HR := hid (show chk (m + 1) v = 0 by
              rw [HCK.out]
              exact chkL_all (fun j y hy => HZ.out j y (by have := (List.getElem?_eq_some_iff.1 hy).1; rw [HL.out]; exact this) hy))
            clear HZ
            go_wp2
            go_ret
            exact ⟨ret_int HR.out.symm, HBr.out⟩
end Go.Proofs.Ytplckmoeaeabgaa
