/-
  The plain twin's order of Objrefs.
-/
import Derived.Test.YtpnjneifolffdaaObB
namespace Go.Proofs.Ytpnjneifolffdaa
open Go Go.ChangeShapes Go.WideShapes Go.ChangeAt Go.RowKit

theorem cmpI_zero {a b : Int} : cmpI a b = 0 ↔ a = b := by
  unfold cmpI
  by_cases h1 : a < b
  · rw [if_pos h1]; omega
  · by_cases h2 : b < a
    · rw [if_neg h1, if_pos h2]; omega
    · rw [if_neg h1, if_neg h2]; omega
theorem cmpI_neg {a b : Int} : decide (cmpI a b < 0) = decide (a < b) := by
  unfold cmpI
  by_cases h1 : a < b
  · rw [if_pos h1]; simp [h1]
  · by_cases h2 : b < a
    · rw [if_neg h1, if_pos h2]; simp [h1]
    · rw [if_neg h1, if_neg h2]; simp [h1]
theorem fst0_no {d : Int} (h : ¬ d = 0) (ds : List Int) : fst0 (d :: ds) = decide (d < 0) := by rw [fst0, if_neg h]
theorem fst0_yes (ds : List Int) : fst0 (0 :: ds) = fst0 ds := by rw [fst0, if_pos rfl]
set_option maxRecDepth 100000 in
theorem szG1 (w : World) : (sizeOf 5).run Try.prog w = .ok 1 w := by kernel_rfl
set_option maxRecDepth 100000 in
theorem eqG (x y : List Int) (hx : x.length = 16) (hy : y.length = 16) (w : World) : (Op.equalIn 10000 25 (.agg (u8s x)) (.agg (u8s y))).run Try.prog w = .ok (x == y) w :=
  run_equalIn_u8s w 9998 25 5 16 Try.underlying25 Try.underlying5 szG1 x y hx hy
set_option maxRecDepth 100000 in
theorem guardG (op : BinOp) (a b : Operand) (xs ys : Array Value) (W : World) : (eqGuard op 25 a b (.agg xs) (.agg ys)).run Try.prog W = .ok () W := run_eqGuard_agg W op 25 a b xs ys (by kernel_rfl)
set_option maxRecDepth 100000 in
set_option maxHeartbeats 2000000 in
theorem refLess_any (x y : Orf) (hx : OrfOk x) (hy : OrfOk y) (w : World) : Calls Try.prog 20 #[.agg (orA x), .agg (orA y)] w fun e w' => e = .returned (.bool (lessO x y)) ∧ Below w.heap.size w w' := by
  have h1 : InO ((w.alloc (.cells (orA x) 27)).alloc (.cells (orA y) 27)) w.heap.size x := heap_alloc2_old _ _ _
  have h2 : InO ((w.alloc (.cells (orA x) 27)).alloc (.cells (orA y) 27)) (w.heap.size + 1) y := heap_alloc2_new _ _ _
  have hB : Below w.heap.size w ((w.alloc (.cells (orA x) 27)).alloc (.cells (orA y) 27)) := ((Below.refl _ _).alloc (Nat.le_refl _) _).alloc (by simp) _
  have a0 := h1.c0
  have a1 := h1.c1
  have a2 := h1.c2
  have a3 := h1.c3
  have b0 := h2.c0
  have b1 := h2.c1
  have b2 := h2.c2
  have b3 := h2.c3
  have H1 := hid h1
  have H2 := hid h2
  have HB := hid hB
  have Hx := hid hx
  have Hy := hid hy
  have C3 := hid (fun W => refCompare_any x.ip y.ip W hx.ip.len hy.ip.len)
  have C4 := hid (fun W => refCompare_any x.ii y.ii W hx.ii.len hy.ii.len)
  have q3 := eqG x.ip y.ip hx.ip.len hy.ip.len
  have q4 := eqG x.ii y.ii hx.ii.len hy.ii.len
  have g3 := guardG
  have e3 := cmpL_eq x.ip y.ip (by rw [hx.ip.len, hy.ip.len])
  have e4 := cmpL_eq x.ii y.ii (by rw [hx.ii.len, hy.ii.len])
  have HE : RowKit.Hid (lessO x y = fst0 [cmpI x.ox y.ox, cmpI x.oi y.oi, cmpL x.ip y.ip, cmpL x.ii y.ii, cmpI x.fl y.fl, cmpI x.rf y.rf]) := rfl
  generalize lessO x y = z at *
  clear h1 h2 hB hx hy
  by_cases k1 : x.ox = y.ox
  · have n1 : (x.ox != y.ox) = false := by simpa using k1
    have HE2 := hid (HE.out.trans (by rw [cmpI_zero.2 k1, fst0_yes]))
    clear HE
    by_cases k2 : x.oi = y.oi
    · have n2 : (x.oi != y.oi) = false := by simpa using k2
      have HE3 := hid (HE2.out.trans (by rw [cmpI_zero.2 k2, fst0_yes]))
      clear HE2
      by_cases k3 : x.ip = y.ip
      · have n3 : (x.ip == y.ip) = true := by simpa using k3
        have HE4 := hid (HE3.out.trans (by rw [e3.2 k3, fst0_yes]))
        clear HE3 C3
        rw [n3] at q3
        by_cases k4 : x.ii = y.ii
        · have n4 : (x.ii == y.ii) = true := by simpa using k4
          have HE5 := hid (HE4.out.trans (by rw [e4.2 k4, fst0_yes]))
          clear HE4 C4
          rw [n4] at q4
          by_cases k5 : x.fl = y.fl
          · have n5 : (x.fl != y.fl) = false := by simpa using k5
            have HE6 : RowKit.Hid (z = decide (x.rf < y.rf)) := hid (HE5.out.trans (by
              rw [cmpI_zero.2 k5, fst0_yes, ← cmpI_neg]
              by_cases k6 : cmpI x.rf y.rf = 0
              · rw [k6]; rfl
              · rw [fst0_no k6]))
            clear HE5 k1 k2 k3 k4 k5 e3 e4 n3 n4
            go_enter Try.func20, Try.ntmps20
            go_wp2_with (first | ((with_reducible refine at_op ⟨some 29, _, _, _, _, _⟩ ?_); refine wpList_run rfl (.agg (u8s x.ip)) (load_g rfl rfl (H1.out.ip Hx.out.ip.len) Hx.out.ip.len) ?_) | ((with_reducible refine at_op ⟨some 31, _, _, _, _, _⟩ ?_); refine wpList_run rfl (.agg (u8s y.ip)) (load_g rfl rfl (H2.out.ip Hy.out.ip.len) Hy.out.ip.len) ?_) | ((with_reducible refine at_op ⟨some 34, _, _, _, _, _⟩ ?_); refine wpList_run rfl (.agg (u8s x.ip)) (load_g rfl rfl (H1.out.ip Hx.out.ip.len) Hx.out.ip.len) ?_) | ((with_reducible refine at_op ⟨some 36, _, _, _, _, _⟩ ?_); refine wpList_run rfl (.agg (u8s y.ip)) (load_g rfl rfl (H2.out.ip Hy.out.ip.len) Hy.out.ip.len) ?_) | ((with_reducible refine at_op ⟨some 41, _, _, _, _, _⟩ ?_); refine wpList_run rfl (.agg (u8s x.ii)) (load_g rfl rfl (H1.out.ii Hx.out.ip.len) Hx.out.ii.len) ?_) | ((with_reducible refine at_op ⟨some 43, _, _, _, _, _⟩ ?_); refine wpList_run rfl (.agg (u8s y.ii)) (load_g rfl rfl (H2.out.ii Hy.out.ip.len) Hy.out.ii.len) ?_) | ((with_reducible refine at_op ⟨some 46, _, _, _, _, _⟩ ?_); refine wpList_run rfl (.agg (u8s x.ii)) (load_g rfl rfl (H1.out.ii Hx.out.ip.len) Hx.out.ii.len) ?_) | ((with_reducible refine at_op ⟨some 48, _, _, _, _, _⟩ ?_); refine wpList_run rfl (.agg (u8s y.ii)) (load_g rfl rfl (H2.out.ii Hy.out.ip.len) Hy.out.ii.len) ?_))
            go_ret
            exact ⟨ret_bool HE6.out.symm, HB.out⟩
          · have n5 : (x.fl != y.fl) = true := by simpa using k5
            have HE6 : RowKit.Hid (z = decide (x.fl < y.fl)) := hid (HE5.out.trans (by rw [fst0_no (fun h => k5 (cmpI_zero.1 h)), cmpI_neg]))
            clear HE5 k1 k2 k3 k4 k5 e3 e4 n3 n4
            go_enter Try.func20, Try.ntmps20
            go_wp2_with (first | ((with_reducible refine at_op ⟨some 29, _, _, _, _, _⟩ ?_); refine wpList_run rfl (.agg (u8s x.ip)) (load_g rfl rfl (H1.out.ip Hx.out.ip.len) Hx.out.ip.len) ?_) | ((with_reducible refine at_op ⟨some 31, _, _, _, _, _⟩ ?_); refine wpList_run rfl (.agg (u8s y.ip)) (load_g rfl rfl (H2.out.ip Hy.out.ip.len) Hy.out.ip.len) ?_) | ((with_reducible refine at_op ⟨some 34, _, _, _, _, _⟩ ?_); refine wpList_run rfl (.agg (u8s x.ip)) (load_g rfl rfl (H1.out.ip Hx.out.ip.len) Hx.out.ip.len) ?_) | ((with_reducible refine at_op ⟨some 36, _, _, _, _, _⟩ ?_); refine wpList_run rfl (.agg (u8s y.ip)) (load_g rfl rfl (H2.out.ip Hy.out.ip.len) Hy.out.ip.len) ?_) | ((with_reducible refine at_op ⟨some 41, _, _, _, _, _⟩ ?_); refine wpList_run rfl (.agg (u8s x.ii)) (load_g rfl rfl (H1.out.ii Hx.out.ip.len) Hx.out.ii.len) ?_) | ((with_reducible refine at_op ⟨some 43, _, _, _, _, _⟩ ?_); refine wpList_run rfl (.agg (u8s y.ii)) (load_g rfl rfl (H2.out.ii Hy.out.ip.len) Hy.out.ii.len) ?_) | ((with_reducible refine at_op ⟨some 46, _, _, _, _, _⟩ ?_); refine wpList_run rfl (.agg (u8s x.ii)) (load_g rfl rfl (H1.out.ii Hx.out.ip.len) Hx.out.ii.len) ?_) | ((with_reducible refine at_op ⟨some 48, _, _, _, _, _⟩ ?_); refine wpList_run rfl (.agg (u8s y.ii)) (load_g rfl rfl (H2.out.ii Hy.out.ip.len) Hy.out.ii.len) ?_))
            go_ret
            exact ⟨ret_bool HE6.out.symm, HB.out⟩
        · have n4 : (x.ii == y.ii) = false := by simpa using k4
          have HE5 : RowKit.Hid (z = decide (cmpL x.ii y.ii < 0)) := hid (HE4.out.trans (by rw [fst0_no (fun h => k4 (e4.1 h))]))
          rw [n4] at q4
          clear HE4 k1 k2 k3 k4 e3 e4 n3 n4
          go_enter Try.func20, Try.ntmps20
          go_wp2_with (first | ((with_reducible refine at_op ⟨some 29, _, _, _, _, _⟩ ?_); refine wpList_run rfl (.agg (u8s x.ip)) (load_g rfl rfl (H1.out.ip Hx.out.ip.len) Hx.out.ip.len) ?_) | ((with_reducible refine at_op ⟨some 31, _, _, _, _, _⟩ ?_); refine wpList_run rfl (.agg (u8s y.ip)) (load_g rfl rfl (H2.out.ip Hy.out.ip.len) Hy.out.ip.len) ?_) | ((with_reducible refine at_op ⟨some 34, _, _, _, _, _⟩ ?_); refine wpList_run rfl (.agg (u8s x.ip)) (load_g rfl rfl (H1.out.ip Hx.out.ip.len) Hx.out.ip.len) ?_) | ((with_reducible refine at_op ⟨some 36, _, _, _, _, _⟩ ?_); refine wpList_run rfl (.agg (u8s y.ip)) (load_g rfl rfl (H2.out.ip Hy.out.ip.len) Hy.out.ip.len) ?_) | ((with_reducible refine at_op ⟨some 41, _, _, _, _, _⟩ ?_); refine wpList_run rfl (.agg (u8s x.ii)) (load_g rfl rfl (H1.out.ii Hx.out.ip.len) Hx.out.ii.len) ?_) | ((with_reducible refine at_op ⟨some 43, _, _, _, _, _⟩ ?_); refine wpList_run rfl (.agg (u8s y.ii)) (load_g rfl rfl (H2.out.ii Hy.out.ip.len) Hy.out.ii.len) ?_) | ((with_reducible refine at_op ⟨some 46, _, _, _, _, _⟩ ?_); refine wpList_run rfl (.agg (u8s x.ii)) (load_g rfl rfl (H1.out.ii Hx.out.ip.len) Hx.out.ii.len) ?_) | ((with_reducible refine at_op ⟨some 48, _, _, _, _, _⟩ ?_); refine wpList_run rfl (.agg (u8s y.ii)) (load_g rfl rfl (H2.out.ii Hy.out.ip.len) Hy.out.ii.len) ?_) | fail)
          refine (C4.out _).mono ?_
          rintro e w5 ⟨rfl, hb5⟩
          have HB5 := hid (HB.out.trans (hb5.mono HB.out.size))
          clear hb5
          go_wp2
          go_ret
          exact ⟨ret_bool HE5.out.symm, HB5.out⟩
      · have n3 : (x.ip == y.ip) = false := by simpa using k3
        have HE4 : RowKit.Hid (z = decide (cmpL x.ip y.ip < 0)) := hid (HE3.out.trans (by rw [fst0_no (fun h => k3 (e3.1 h))]))
        rw [n3] at q3
        clear HE3 k1 k2 k3 e3 e4 n3 q4 C4
        go_enter Try.func20, Try.ntmps20
        go_wp2_with (first | ((with_reducible refine at_op ⟨some 29, _, _, _, _, _⟩ ?_); refine wpList_run rfl (.agg (u8s x.ip)) (load_g rfl rfl (H1.out.ip Hx.out.ip.len) Hx.out.ip.len) ?_) | ((with_reducible refine at_op ⟨some 31, _, _, _, _, _⟩ ?_); refine wpList_run rfl (.agg (u8s y.ip)) (load_g rfl rfl (H2.out.ip Hy.out.ip.len) Hy.out.ip.len) ?_) | ((with_reducible refine at_op ⟨some 34, _, _, _, _, _⟩ ?_); refine wpList_run rfl (.agg (u8s x.ip)) (load_g rfl rfl (H1.out.ip Hx.out.ip.len) Hx.out.ip.len) ?_) | ((with_reducible refine at_op ⟨some 36, _, _, _, _, _⟩ ?_); refine wpList_run rfl (.agg (u8s y.ip)) (load_g rfl rfl (H2.out.ip Hy.out.ip.len) Hy.out.ip.len) ?_) | ((with_reducible refine at_op ⟨some 41, _, _, _, _, _⟩ ?_); refine wpList_run rfl (.agg (u8s x.ii)) (load_g rfl rfl (H1.out.ii Hx.out.ip.len) Hx.out.ii.len) ?_) | ((with_reducible refine at_op ⟨some 43, _, _, _, _, _⟩ ?_); refine wpList_run rfl (.agg (u8s y.ii)) (load_g rfl rfl (H2.out.ii Hy.out.ip.len) Hy.out.ii.len) ?_) | ((with_reducible refine at_op ⟨some 46, _, _, _, _, _⟩ ?_); refine wpList_run rfl (.agg (u8s x.ii)) (load_g rfl rfl (H1.out.ii Hx.out.ip.len) Hx.out.ii.len) ?_) | ((with_reducible refine at_op ⟨some 48, _, _, _, _, _⟩ ?_); refine wpList_run rfl (.agg (u8s y.ii)) (load_g rfl rfl (H2.out.ii Hy.out.ip.len) Hy.out.ii.len) ?_) | fail)
        refine (C3.out _).mono ?_
        rintro e w5 ⟨rfl, hb5⟩
        have HB5 := hid (HB.out.trans (hb5.mono HB.out.size))
        clear hb5
        go_wp2
        go_ret
        exact ⟨ret_bool HE4.out.symm, HB5.out⟩
    · have n2 : (x.oi != y.oi) = true := by simpa using k2
      have HE3 : RowKit.Hid (z = decide (x.oi < y.oi)) := hid (HE2.out.trans (by rw [fst0_no (fun h => k2 (cmpI_zero.1 h)), cmpI_neg]))
      clear HE2 k1 k2
      go_enter Try.func20, Try.ntmps20
      go_wp2
      go_ret
      exact ⟨ret_bool HE3.out.symm, HB.out⟩
  · have n1 : (x.ox != y.ox) = true := by simpa using k1
    have HE2 : RowKit.Hid (z = decide (x.ox < y.ox)) := hid (HE.out.trans (by rw [fst0_no (fun h => k1 (cmpI_zero.1 h)), cmpI_neg]))
    clear HE k1
    go_enter Try.func20, Try.ntmps20
    go_wp2
    go_ret
    exact ⟨ret_bool HE2.out.symm, HB.out⟩
end Go.Proofs.Ytpnjneifolffdaa
