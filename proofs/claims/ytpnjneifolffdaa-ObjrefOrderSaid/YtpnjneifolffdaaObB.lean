/-
  Objrefs: held against each other; the order and its plain twin.
-/
import Derived.Test.YtpnjneifolffdaaObA
import Derived.Test.YtpnjneifolffdaaSureA
import Derived.Deep.Cut
namespace Go.Proofs.Ytpnjneifolffdaa
open Go Go.ChangeShapes Go.WideShapes Go.ChangeAt Go.RowKit

def cmpI (a b : Int) : Int := if a < b then -1 else if b < a then 1 else 0
set_option maxRecDepth 100000 in
theorem Cmp64_any (a b : Int) (w : World) : Calls Try.prog 31 #[.int .u64 a, .int .u64 b] w fun e w' => e = .returned (.int .i64 (cmpI a b)) ∧ Below w.heap.size w w' := by
  have HE : RowKit.Hid (cmpI a b = if a < b then -1 else if b < a then 1 else 0) := rfl
  generalize cmpI a b = z at *
  by_cases h1 : a < b
  · have d1 : decide (a < b) = true := by simpa using h1
    have h3 : RowKit.Hid (z = -1) := hid (by rw [HE.out]; simp [h1])
    clear HE
    go_enter Try.func31, Try.ntmps31
    go_wp2
    go_ret
    exact ⟨ret_i64 h3.out.symm, Below.refl _ _⟩
  · have d1 : decide (a < b) = false := by simpa using h1
    by_cases h2 : b < a
    · have d2 : decide (b < a) = true := by simpa using h2
      have h3 : RowKit.Hid (z = 1) := hid (by rw [HE.out]; simp [h1, h2])
      clear HE
      go_enter Try.func31, Try.ntmps31
      go_wp2
      go_ret
      exact ⟨ret_i64 h3.out.symm, Below.refl _ _⟩
    · have d2 : decide (b < a) = false := by simpa using h2
      have h3 : RowKit.Hid (z = 0) := hid (by rw [HE.out]; simp [h1, h2])
      clear HE
      go_enter Try.func31, Try.ntmps31
      go_wp2
      go_ret
      exact ⟨ret_i64 h3.out.symm, Below.refl _ _⟩
set_option maxRecDepth 100000 in
theorem Cmp32_any (a b : Int) (w : World) : Calls Try.prog 33 #[.int .u32 a, .int .u32 b] w fun e w' => e = .returned (.int .i64 (cmpI a b)) ∧ Below w.heap.size w w' := by
  have HE : RowKit.Hid (cmpI a b = if a < b then -1 else if b < a then 1 else 0) := rfl
  generalize cmpI a b = z at *
  by_cases h1 : a < b
  · have d1 : decide (a < b) = true := by simpa using h1
    have h3 : RowKit.Hid (z = -1) := hid (by rw [HE.out]; simp [h1])
    clear HE
    go_enter Try.func33, Try.ntmps33
    go_wp2
    go_ret
    exact ⟨ret_i64 h3.out.symm, Below.refl _ _⟩
  · have d1 : decide (a < b) = false := by simpa using h1
    by_cases h2 : b < a
    · have d2 : decide (b < a) = true := by simpa using h2
      have h3 : RowKit.Hid (z = 1) := hid (by rw [HE.out]; simp [h1, h2])
      clear HE
      go_enter Try.func33, Try.ntmps33
      go_wp2
      go_ret
      exact ⟨ret_i64 h3.out.symm, Below.refl _ _⟩
    · have d2 : decide (b < a) = false := by simpa using h2
      have h3 : RowKit.Hid (z = 0) := hid (by rw [HE.out]; simp [h1, h2])
      clear HE
      go_enter Try.func33, Try.ntmps33
      go_wp2
      go_ret
      exact ⟨ret_i64 h3.out.symm, Below.refl _ _⟩

/-- The first that isn't 0, is it below? -/
def fst0 : List Int → Bool
  | [] => false
  | d :: ds => if d = 0 then fst0 ds else decide (d < 0)
def diffs (x y : Orf) : List Int := [cmpI x.ox y.ox, cmpI x.oi y.oi, cmpL x.ip y.ip, cmpL x.ii y.ii, cmpI x.fl y.fl, cmpI x.rf y.rf]
def lessO (x y : Orf) : Bool := fst0 (diffs x y)

theorem fst0_at (ds : List Int) (k : Nat) (h : k < ds.length) : fst0 (ds.drop k) = if ds.getD k 0 = 0 then fst0 (ds.drop (k + 1)) else decide (ds.getD k 0 < 0) := by
  rw [List.drop_eq_getElem_cons h, fst0]
  simp [h]
def i64s (xs : List Int) : Array Value := (xs.map (Value.int .i64)).toArray
theorem run_index_i64s {P : Program} (w : World) (t e n : Nat) (xs : List Int) (k : Nat) (ht : P.underlying t = some (.array n e)) (he : ∀ w, (sizeOf e).run P w = .ok 1 w) (ha : ∀ w, (isAgg e).run P w = .ok false w) (hn : xs.length = n) (hk : k < n) :
    (Instr.index t (.agg (i64s xs)) (.int .i64 (k : Int))).run P w = .ok (.int .i64 (xs.getD k 0)) w := by
  have h1 : (i64s xs)[k]? = some (.int .i64 (xs.getD k 0)) := by
    have : k < xs.length := by omega
    simp [i64s, this]
  simp [Instr.index, asIntOf, run_underlying ht, he, ha, hk, part, h1]
set_option maxRecDepth 100000 in
theorem szI (w : World) : (sizeOf 3).run Try.prog w = .ok 1 w := by kernel_rfl
set_option maxRecDepth 100000 in
theorem agI (w : World) : (isAgg 3).run Try.prog w = .ok false w := by kernel_rfl
def Two (w0 : World) (b c : Nat) (x y : Orf) (W : World) : Prop := InO W b x ∧ InO W c y ∧ Below w0.heap.size w0 W
set_option maxRecDepth 100000 in
theorem Two.call {w0 W W' : World} {b c : Nat} {x y : Orf} (h : Two w0 b c x y W) (hB : Below W.heap.size W W') : Two w0 b c x y W' := ⟨h.1.below hB, h.2.1.below hB, below_on h.2.2 hB⟩
set_option maxRecDepth 100000 in
set_option maxHeartbeats 2000000 in
theorem Less_any (x y : Orf) (hx : OrfOk x) (hy : OrfOk y) (w : World) : Calls Try.prog 19 #[.agg (orA x), .agg (orA y)] w fun e w' => e = .returned (.bool (lessO x y)) ∧ Below w.heap.size w w' := by
  have hT : Two w w.heap.size (w.heap.size + 1) x y ((w.alloc (.cells (orA x) 27)).alloc (.cells (orA y) 27)) :=
    ⟨heap_alloc2_old _ _ _, heap_alloc2_new _ _ _, ((Below.refl _ _).alloc (Nat.le_refl _) _).alloc (by simp) _⟩
  have HT := hid hT
  have Hx := hid hx
  have Hy := hid hy
  have HE : RowKit.Hid (lessO x y = fst0 [cmpI x.ox y.ox, cmpI x.oi y.oi, cmpL x.ip y.ip, cmpL x.ii y.ii, cmpI x.fl y.fl, cmpI x.rf y.rf]) := rfl
  have C1 := hid (fun W => Cmp64_any x.ox y.ox W)
  have C2 := hid (fun W => Cmp64_any x.oi y.oi W)
  have C3 := hid (fun W => Compare_any x.ip y.ip W hx.ip.len hy.ip.len)
  have C4 := hid (fun W => Compare_any x.ii y.ii W hx.ii.len hy.ii.len)
  have C5 := hid (fun W => Cmp32_any x.fl y.fl W)
  have C6 := hid (fun W => Cmp32_any x.rf y.rf W)
  generalize lessO x y = z at *
  generalize cmpI x.ox y.ox = d0 at *
  generalize cmpI x.oi y.oi = d1 at *
  generalize cmpL x.ip y.ip = d2 at *
  generalize cmpL x.ii y.ii = d3 at *
  generalize cmpI x.fl y.fl = d4 at *
  generalize cmpI x.rf y.rf = d5 at *
  clear hT hx hy
  go_enter Try.func19, Try.ntmps19
  go_upto_region 1 with (fail)
  refine A.wp_region_new' 31 _ _ rfl (Two w w.heap.size (w.heap.size + 1) x y) (fun g W => W.heap[g]? = some (.cells #[.int .i64 0, .int .i64 0, .int .i64 0, .int .i64 0, .int .i64 0, .int .i64 0] 68 (0, 0)) ∧ w.heap.size ≤ g) (by kernel_rfl) (by kernel_rfl) rfl rfl ⟨HT.out.1, HT.out.2.1, HT.out.2.2.drew⟩ ?hT ?hal ?_
  case hT => exact fun g W W' hh hF => ⟨by rw [hF.block g (lt_of_heap hh.1) (fun h => h)]; exact hh.1, hh.2⟩
  case hal =>
    intro a W hS
    refine ⟨W.alloc (.cells #[.int .i64 0, .int .i64 0, .int .i64 0, .int .i64 0, .int .i64 0, .int .i64 0] 68), ?_, hS.call ((Below.refl _ _).alloc (Nat.le_refl _) _), heap_alloc_new _ _, hS.2.2.size⟩
    go_simp
  simp only [List.take_succ_cons, List.take_zero]
  repeat (first
    | ((with_reducible refine A.atS ⟨some 12, _, _, _, _, _⟩ ?_); refine A.wpSure_call _ _ _ rfl ?_ (fun W _ => C1.out W) (fun W W' hS hB => hS.call hB) ?_; (solve | (intro W; go_simp)); simp only [Act.put, List.setIfInBounds_toArray, List.set_cons_zero, List.set_cons_succ])
    | ((with_reducible refine A.atS ⟨some 17, _, _, _, _, _⟩ ?_); refine A.wpSure_call _ _ _ rfl ?_ (fun W _ => C2.out W) (fun W W' hS hB => hS.call hB) ?_; (solve | (intro W; go_simp)); simp only [Act.put, List.setIfInBounds_toArray, List.set_cons_zero, List.set_cons_succ])
    | ((with_reducible refine A.atS ⟨some 22, _, _, _, _, _⟩ ?_); refine A.wpSure_call _ _ _ rfl ?_ (fun W _ => C3.out W) (fun W W' hS hB => hS.call hB) ?_; (solve | (intro W; go_simp)); simp only [Act.put, List.setIfInBounds_toArray, List.set_cons_zero, List.set_cons_succ])
    | ((with_reducible refine A.atS ⟨some 27, _, _, _, _, _⟩ ?_); refine A.wpSure_call _ _ _ rfl ?_ (fun W _ => C4.out W) (fun W W' hS hB => hS.call hB) ?_; (solve | (intro W; go_simp)); simp only [Act.put, List.setIfInBounds_toArray, List.set_cons_zero, List.set_cons_succ])
    | ((with_reducible refine A.atS ⟨some 32, _, _, _, _, _⟩ ?_); refine A.wpSure_call _ _ _ rfl ?_ (fun W _ => C5.out W) (fun W W' hS hB => hS.call hB) ?_; (solve | (intro W; go_simp)); simp only [Act.put, List.setIfInBounds_toArray, List.set_cons_zero, List.set_cons_succ])
    | ((with_reducible refine A.atS ⟨some 37, _, _, _, _, _⟩ ?_); refine A.wpSure_call _ _ _ rfl ?_ (fun W _ => C6.out W) (fun W W' hS hB => hS.call hB) ?_; (solve | (intro W; go_simp)); simp only [Act.put, List.setIfInBounds_toArray, List.set_cons_zero, List.set_cons_succ])
    | ((with_reducible refine A.atS ⟨some 19, _, _, _, _, _⟩ ?_); refine A.wpSure_read (.agg (u8s x.ip)) rfl (fun W hS => load_g rfl rfl (hS.1.ip Hx.out.ip.len) Hx.out.ip.len) ?_; simp only [Act.put, List.setIfInBounds_toArray, List.set_cons_zero, List.set_cons_succ])
    | ((with_reducible refine A.atS ⟨some 21, _, _, _, _, _⟩ ?_); refine A.wpSure_read (.agg (u8s y.ip)) rfl (fun W hS => load_g rfl rfl (hS.2.1.ip Hy.out.ip.len) Hy.out.ip.len) ?_; simp only [Act.put, List.setIfInBounds_toArray, List.set_cons_zero, List.set_cons_succ])
    | ((with_reducible refine A.atS ⟨some 24, _, _, _, _, _⟩ ?_); refine A.wpSure_read (.agg (u8s x.ii)) rfl (fun W hS => load_g rfl rfl (hS.1.ii Hx.out.ip.len) Hx.out.ii.len) ?_; simp only [Act.put, List.setIfInBounds_toArray, List.set_cons_zero, List.set_cons_succ])
    | ((with_reducible refine A.atS ⟨some 26, _, _, _, _, _⟩ ?_); refine A.wpSure_read (.agg (u8s y.ii)) rfl (fun W hS => load_g rfl rfl (hS.2.1.ii Hy.out.ip.len) Hy.out.ii.len) ?_; simp only [Act.put, List.setIfInBounds_toArray, List.set_cons_zero, List.set_cons_succ])
    | (refine' A.wpSure_value _ rfl _ _; rotate_left; (solve | (intro W; go_simp) | (intro W; go_simp; with_reducible rfl)); simp only [Act.put, List.setIfInBounds_toArray, List.set_cons_zero, List.set_cons_succ])
    | (refine' A.wpSure_read _ rfl _ _; rotate_left; (solve | (rintro W ⟨h1, h2, _⟩; have a0 := h1.c0; have a1 := h1.c1; have a2 := h1.c2; have a3 := h1.c3; have b0 := h2.c0; have b1 := h2.c1; have b2 := h2.c2; have b3 := h2.c3; clear h1 h2; go_simp) | (rintro W ⟨h1, h2, _⟩; have a0 := h1.c0; have a1 := h1.c1; have a2 := h1.c2; have a3 := h1.c3; have b0 := h2.c0; have b1 := h2.c1; have b2 := h2.c2; have b3 := h2.c3; clear h1 h2; go_simp; with_reducible rfl)); simp only [Act.put, List.setIfInBounds_toArray, List.set_cons_zero, List.set_cons_succ]))
  refine A.wpSure_end ?_
  intro g W hS hg
  have hB := hS.2.2
  have hlt := lt_of_heap hg.1
  obtain ⟨W2, hW2⟩ : ∃ W2, W2 = W.setRow g #[.int .i64 d0, .int .i64 d1, .int .i64 d2, .int .i64 d3, .int .i64 d4, .int .i64 d5] := ⟨_, rfl⟩
  have hg2 : W2.heap[g]? = some (.cells #[.int .i64 d0, .int .i64 d1, .int .i64 d2, .int .i64 d3, .int .i64 d4, .int .i64 d5] 68 (0, 0)) := by rw [hW2]; exact setRow_heap _ _ _ _ _ _ hg.1
  have hB2 : Below w.heap.size w W2 := by rw [hW2]; exact below_setRow hB _ _ hg.2
  refine wpList_store_row rfl 68 _ _ rfl g #[.int .i64 d0, .int .i64 d1, .int .i64 d2, .int .i64 d3, .int .i64 d4, .int .i64 d5] rfl rfl 68 _ hg.1 (by kernel_rfl) rfl (by simp [Value.oneCell']) ?_
  rw [← hW2]
  have HB2 := hid hB2
  clear hW2 hB2 hB hS hg hlt C1 C2 C3 C4 C5 C6 Hx Hy HT
  simp only [Act.put]
  obtain ⟨ds, hds⟩ : ∃ ds, ds = [d0, d1, d2, d3, d4, d5] := ⟨_, rfl⟩
  have hl : ds.length = 6 := by rw [hds]; rfl
  have ha : #[.int .i64 d0, .int .i64 d1, .int .i64 d2, .int .i64 d3, .int .i64 d4, .int .i64 d5] = i64s ds := by rw [hds]; rfl
  rw [← hds] at HE
  rw [ha] at hg2 ⊢
  have HL := hid hl
  clear hds ha hl
  go_wp2_with ((with_reducible refine at_op ⟨some 39, _, _, _, _, _⟩ ?_); refine wpList_load_row rfl 68 _ rfl g rfl 68 (i64s ds) (0, 0) _ hg2 Try.underlying68 rfl (by rw [show (i64s ds).size = 6 by simp [i64s, HL.out]]; kernel_rfl) ?_)
  go_loop [7, 40] (fun _ n => ∃ k : Nat, k ≤ 6 ∧ n = .int .i64 k ∧ RowKit.Hid (z = fst0 (ds.drop k))) (fun _ n => 6 - (intOf n).toNat)
  case atStart => exact ⟨0, by omega, rfl, HE⟩
  case round =>
    obtain ⟨k, hk, rfl, HZ⟩ := hrel
    by_cases hk6 : k < 6
    · have hix := fun w => run_index_i64s (P := Try.prog) w 68 3 6 ds k Try.underlying68 szI agI HL.out hk6
      have HN := hid (HZ.out.trans (fst0_at ds k (by rw [HL.out]; exact hk6)))
      generalize ds.getD k 0 = d at *
      by_cases hd : d = 0
      · subst hd
        have HZ2 : RowKit.Hid (z = fst0 (ds.drop (k + 1))) := hid (by rw [HN.out]; simp)
        clear HN HZ
        go_wp2
        go_round
        case rel => exact ⟨k + 1, by omega, by go_num, HZ2⟩
        case measure => simp [intOf]; omega
      · have hd0 : (d != 0) = true := by simpa using hd
        have HZ2 : RowKit.Hid (z = decide (d < 0)) := hid (by rw [HN.out]; simp [hd])
        clear HN HZ hd
        go_wp2
        go_ret
        exact ⟨ret_bool HZ2.out.symm, HB2.out⟩
    · obtain rfl : k = 6 := by omega
      have HZ2 : RowKit.Hid (z = false) := hid (by rw [HZ.out, List.drop_of_length_le (by rw [HL.out]; omega)]; rfl)
      clear HZ
      go_wp2
      go_ret
      exact ⟨ret_bool HZ2.out.symm, HB2.out⟩
end Go.Proofs.Ytpnjneifolffdaa
