/-
  The contract of variant.Check.
-/
import Derived.Test.YtplckmoeaeabgaaVwC
import Derived.Test.YtplckmoeaeabgaaVpC
namespace Go.Proofs.Ytplckmoeaeabgaa
open Go Go.ChangeShapes Go.WideShapes Go.ChangeAt Go.RowKit Go.Shelf
attribute [local go_sem] Oper.semAt_some

theorem keeps_below {W W' : World} (h : Below W.heap.size W W') : KeepsOthers W W' := ⟨h.size, fun k o hk _ => by rw [h.block k (Array.getElem?_eq_some_iff.1 hk).1]; exact hk⟩
theorem heap_alloc_keep {W : World} {p : Nat} {o : Obj} (x : Obj) (h : W.heap[p]? = some o) : (W.alloc x).heap[p]? = some o := (Below.heap_alloc W x p (lt_of_heap h)).trans h
/-- One of the values, by itself. -/
def ckW (x : Int × Mv) : Int := ckV (wrap64 (x.1 + 1)) x.2.vr
def fz : List (Int × Mv) → Int
  | [] => 0
  | x :: xs => if ckW x ≠ 0 then ckW x else fz xs
theorem fz_app (l r : List (Int × Mv)) : fz (l ++ r) = if fz l ≠ 0 then fz l else fz r := by
  induction l with
  | nil => simp [fz]
  | cons x l ih =>
    rw [List.cons_append]
    by_cases h : ckW x = 0
    · have e : ∀ t, fz (x :: t) = fz t := fun t => by show (if ckW x ≠ 0 then ckW x else fz t) = _; rw [if_neg (by simpa using h)]
      rw [e, e, ih]
    · have e : ∀ t, fz (x :: t) = ckW x := fun t => by show (if ckW x ≠ 0 then ckW x else fz t) = _; rw [if_pos h]
      rw [e, e, if_pos h]
theorem fz_zero {l : List (Int × Mv)} (h : ∀ x ∈ l, ckW x = 0) : fz l = 0 := by
  induction l with
  | nil => rfl
  | cons x l ih =>
    show (if ckW x ≠ 0 then ckW x else fz l) = 0
    rw [if_neg (by simpa using h x (by simp))]
    exact ih fun y hy => h y (by simp [hy])
theorem fz_at {l pre : List (Int × Mv)} {x : Int × Mv} (hp : pre ++ [x] <+: l) (h : ∀ y ∈ pre, ckW y = 0) (hx : ckW x ≠ 0) : fz l = ckW x := by
  obtain ⟨r, rfl⟩ := hp
  have e : fz (pre ++ [x]) = ckW x := by
    rw [fz_app, fz_zero h]
    show (if (0 : Int) ≠ 0 then 0 else if ckW x ≠ 0 then ckW x else 0) = ckW x
    rw [if_neg (by simp), if_pos hx]
  rw [fz_app, e, if_pos hx]
theorem fz_parts {f : Vr → Int} {d : Int} : ∀ {l : List Mv}, (∀ x ∈ l, fz (walkM x d) = f x.vr) → fz (l.flatMap fun x => walkM x d) = chkL f (l.map Mv.vr)
  | [], _ => rfl
  | x :: l, h => by
    rw [List.flatMap_cons, fz_app, h x (by simp), fz_parts (l := l) (fun y hy => h y (by simp [hy])), List.map_cons]
    rfl
/-- The first wrong one is what is told. -/
theorem fz_chk : ∀ (m : Nat) (v : Mv), m ≤ 8 → fz (walkM v (8 - (m : Int))) = chk m v.vr
  | 0, .mk k n s a c l, _ => by
    rw [walkM_mk]
    have e : ckW (8 - ((0 : Nat) : Int), Mv.mk k n s a c l) = 16 := by
      unfold ckW ckV
      rw [if_pos]
      rw [IntWalk.wrap64_in _ (by omega)]; omega
    show (if ckW (8 - ((0 : Nat) : Int), Mv.mk k n s a c l) ≠ 0 then ckW (8 - ((0 : Nat) : Int), Mv.mk k n s a c l) else _) = _
    rw [e, if_pos (by decide)]; rfl
  | m + 1, .mk k n s a c l, hm => by
    rw [walkM_mk]
    have hw : wrap64 (8 - ((m + 1 : Nat) : Int) + 1) = 8 - (m : Int) := by rw [IntWalk.wrap64_in _ (by omega)]; omega
    rw [hw]
    have e : ckW (8 - ((m + 1 : Nat) : Int), Mv.mk k n s a c l) = if formV (Mv.mk k n s a c l).vr = false then 5 else if 256 < (Mv.mk k n s a c l).vr.s.length ∨ 64 < (Mv.mk k n s a c l).vr.l.length then 20 else 0 := by
      unfold ckW ckV
      simp only [hw]
      rw [if_neg (by omega)]
    show (if ckW (8 - ((m + 1 : Nat) : Int), Mv.mk k n s a c l) ≠ 0 then ckW (8 - ((m + 1 : Nat) : Int), Mv.mk k n s a c l) else fz (l.flatMap fun x => walkM x (8 - (m : Int)))) = _
    rw [e]
    unfold chk
    by_cases h1 : formV (Mv.mk k n s a c l).vr = false
    · rw [if_pos h1, if_pos h1]; rfl
    · rw [if_neg h1, if_neg h1]
      by_cases h2 : 256 < (Mv.mk k n s a c l).vr.s.length ∨ 64 < (Mv.mk k n s a c l).vr.l.length
      · rw [if_pos h2, if_pos h2]; rfl
      · rw [if_neg h2, if_neg h2, if_neg (by simp), Mv.vr_l]
        exact fz_parts fun x _ => fz_chk m x (by omega)
theorem Mv.vr_len (v : Mv) : v.vr.l.length = v.l.length := by rw [Mv.vr_l, List.length_map]
theorem checkM_any (w : World) (x : Int × Mv) : Calls Try.prog 27 #[.agg #[.int .i64 x.2.k, .int .i64 x.2.n, .string (strI x.2.s), .slice x.2.a x.2.l.length x.2.c], .int .i64 (wrap64 (x.1 + 1))] w fun e w' => e = .returned (.int .i64 (ckW x)) ∧ Below w.heap.size w w' := by
  have h := checkOne_any w x.2.vr x.2.a x.2.c (wrap64 (x.1 + 1))
  rw [Mv.vr_k, Mv.vr_n, Mv.vr_s, Mv.vr_len] at h
  exact h
/-- Told so far. -/
abbrev tolds {v : Mv} (pre : List (Pv v)) : List (Int × Mv) := pre.map (·.1)
/-- Between two rounds of Check. -/
structure CI (w0 : World) (pre : List (Int × Mv)) (r : Int) (W : World) : Prop where
  b1 : Boxed W (w0.heap.size + 1) 25 (.int .i64 r)
  below : Below w0.heap.size w0 W
  zero : ∀ x ∈ pre, ckW x = 0
theorem CI.kept {w0 : World} {pre : List (Int × Mv)} {r : Int} {W W' : World} {row : Option Nat} (h : CI w0 pre r W) (hg : W.grownBy W' row) (hr : ∀ r, row = some r → w0.heap.size ≤ r ∧ ∃ o : Obj, W.heap[r]? = some o ∧ o.isCells = false) : CI w0 pre r W' :=
  have hr' := fun r e => (hr r e).2
  ⟨h.b1.kept hg (not_cells h.b1 hr'), h.below.grown hg h.below.size (fun k e => (hr k e).1), h.zero⟩
def CX (w0 : World) (c : Code) (ps : List (Int × Mv)) (W : World) : Prop := c = .ret ∧ ∃ pre x, ps = pre ++ [x] ∧ ckW x ≠ 0 ∧ CI w0 pre (ckW x) W
theorem cell4 {W : World} {b t : Nat} {c0 c1 c2 c3 : Value} {fz : Nat × Nat} (h : W.heap[b]? = some (.cells #[c0, c1, c2, c3] t fz)) : W.cell? ⟨b, 0, none⟩ = some c0 ∧ W.cell? ⟨b, 1, none⟩ = some c1 ∧ W.cell? ⟨b, 2, none⟩ = some c2 ∧ W.cell? ⟨b, 3, none⟩ = some c3 :=
  ⟨by rw [cell_of_row W b 0 _ t _ h]; rfl, by rw [cell_of_row W b 1 _ t _ h]; rfl, by rw [cell_of_row W b 2 _ t _ h]; rfl, by rw [cell_of_row W b 3 _ t _ h]; rfl⟩
set_option maxRecDepth 100000 in
set_option maxHeartbeats 4000000 in
theorem PCheck_in (n : Nat) (hn : 3 ≤ n) (w : World) (v : Mv) (hM : MS w (fun k => k < w.heap.size) v) :
    CallsIn Fence.wide n Try.prog 9 #[.agg v.cells.toArray] w fun e w' => e = .returned (.int .i64 (chk 8 v.vr)) ∧ Below w.heap.size w w' := by
  have h1 : 1 ≤ n := by omega
  have HV := hid (fz_chk 8 v (Nat.le_refl _))
  have hcells : v.cells = [.int .i64 v.k, .int .i64 v.n, .string (strI v.s), .slice v.a v.l.length v.c] := rfl
  have hB0 : ∀ o o' o'', Below w.heap.size w (((w.alloc o).alloc o').alloc o'') := fun o o' o'' => (((Below.refl _ w).alloc (Nat.le_refl _) _).alloc (by simp) _).alloc (by simp; omega) _
  have HB0 := hid hB0
  have hM3 := fun o o' o'' => hM.ks (ks_below (hB0 o o' o''))
  have hst := fun W (hW : W.heap[w.heap.size + 1 + 1]? = some (.cells v.cells.toArray 24 (0, 0))) (hMW : MS W (fun k => k < w.heap.size) v) => values_stops (n - 1) (w.heap.size + 1 + 1) (fun k => k < w.heap.size) v W hW hMW
  rw [hcells] at hst ⊢
  have HM3 := hid hM3
  have HST := hid hst
  clear hM hB0 hM3 hst
  obtain ⟨vk, hvk⟩ : ∃ x, x = v.k := ⟨_, rfl⟩
  obtain ⟨vn, hvn⟩ : ∃ x, x = v.n := ⟨_, rfl⟩
  obtain ⟨vs, hvs⟩ : ∃ x, x = strI v.s := ⟨_, rfl⟩
  obtain ⟨va, hva⟩ : ∃ x, x = v.a := ⟨_, rfl⟩
  obtain ⟨vl, hvl⟩ : ∃ x, x = v.l.length := ⟨_, rfl⟩
  obtain ⟨vc, hvc⟩ : ∃ x, x = v.c := ⟨_, rfl⟩
  rw [← hvk, ← hvn, ← hvs, ← hva, ← hvl, ← hvc] at HST ⊢
  clear hvk hvn hvs hva hvl hvc hcells
  refine callsIn_of_wp_marks Try.func9 rfl trivial ?_ rfl
  simp only [Try.ntmps9, List.size_toArray, List.length_cons, List.length_nil, Nat.reduceAdd, Nat.reduceSub, Array.replicate_succ, Array.replicate_zero, List.push_toArray, List.append_toArray, List.nil_append, List.cons_append]
  gi_wp2_with fail
  first
    | refine (callsIn_wide.2 (values_any _ _ _ _ _)).mono ?_
    | refine ⟨trivial, (callsIn_wide.2 (values_any _ _ _ _ _)).mono ?_⟩
    | refine ⟨trivial, (fun h => by cases h), (callsIn_wide.2 (values_any _ _ _ _ _)).mono ?_⟩
  rintro e w' ⟨rfl, rfl⟩
  simp only [World.size_alloc]
  have b1 := (Boxed.new (w.alloc (.cells #[.int .i64 vk, .int .i64 vn, .string vs, .slice va vl vc] 24)) 25 (.int .i64 0)).alloc (.cells #[.int .i64 vk, .int .i64 vn, .string vs, .slice va vl vc] 24)
  have b2 := heap_alloc_new ((w.alloc (.cells #[.int .i64 vk, .int .i64 vn, .string vs, .slice va vl vc] 24)).alloc (.cells #[.int .i64 0] 25)) (.cells #[.int .i64 vk, .int .i64 vn, .string vs, .slice va vl vc] 24)
  simp only [World.size_alloc] at b1 b2
  have hb3 := HB0.out (.cells #[.int .i64 vk, .int .i64 vn, .string vs, .slice va vl vc] 24) (.cells #[.int .i64 0] 25) (.cells #[.int .i64 vk, .int .i64 vn, .string vs, .slice va vl vc] 24)
  have hI0 : CI w [] 0 _ := ⟨b1, hb3, fun x hx => by simp at hx⟩
  have hst := HST.out _ b2 (HM3.out _ _ _)
  have hms := HM3.out (.cells #[.int .i64 vk, .int .i64 vn, .string vs, .slice va vl vc] 24) (.cells #[.int .i64 0] 25) (.cells #[.int .i64 vk, .int .i64 vn, .string vs, .slice va vl vc] 24)
  have hsz : w.heap.size + 1 + 1 < (((w.alloc (.cells #[.int .i64 vk, .int .i64 vn, .string vs, .slice va vl vc] 24)).alloc (.cells #[.int .i64 0] 25)).alloc (.cells #[.int .i64 vk, .int .i64 vn, .string vs, .slice va vl vc] 24)).heap.size := by simp
  obtain ⟨w0, hw0⟩ : ∃ w0, w0 = (((w.alloc (.cells #[.int .i64 vk, .int .i64 vn, .string vs, .slice va vl vc] 24)).alloc (.cells #[.int .i64 0] 25)).alloc (.cells #[.int .i64 vk, .int .i64 vn, .string vs, .slice va vl vc] 24)) := ⟨_, rfl⟩
  rw [← hw0] at hst hI0 hsz hms ⊢
  have HST2 := hid hst
  have HI := hid hI0
  have HMS := hid hms
  clear hst hI0 hw0 b1 b2 hb3 hms HST HB0 HM3
  gi_wp2
  refine wpIn_rangeFunc_ownH rfl h1 (gf := 41) (lb := #[.pointer (some ⟨w.heap.size + 1 + 1, 0, none⟩)]) rfl trivial (enters_of Try.func41 (by kernel_rfl) rfl)
    HST2.out (fun h k => h.t k) (fun W l o o' _ h2 h3 _ => KQ.b _ W l o o' h2 h3) (Below.refl _ _) (fun _ => rfl)
    (fun pre W => CI w (tolds pre) 0 W) (fun c pre W => CX w c (tolds pre) W)
    (fun _ _ _ _ h hg hr => h.kept hg (fun r e => ⟨by have := (hr r e).1; omega, (hr r e).2⟩)) (fun _ _ _ _ _ ⟨hc, p, x, e1, e2, h⟩ hg hr => ⟨hc, p, x, e1, e2, h.kept hg (fun r e => ⟨by have := (hr r e).1; omega, (hr r e).2⟩)⟩) HI.out
    (fun x a' W => ∃ Bx, w.heap.size + 1 < Bx ∧ W.heap[Bx]? = some (.cells #[.int .i64 x.1.2.k, .int .i64 x.1.2.n, .string (strI x.1.2.s), .slice x.1.2.a x.1.2.l.length x.1.2.c] 24 (0, 0)) ∧ a' = { tmps := #[.agg #[.int .i64 vk, .int .i64 vn, .string vs, .slice va vl vc], .pointer (some ⟨w.heap.size, 0, none⟩), .pointer (some ⟨w.heap.size + 1, 0, none⟩), .int .i64 x.1.1, .pointer (some ⟨Bx, 0, none⟩), undef, .agg #[.int .i64 vk, .int .i64 vn, .string vs, .slice va vl vc], .func (.func 41) #[] #[.pointer (some ⟨w.heap.size + 1 + 1, 0, none⟩)], .int .i64 x.1.1, .agg #[.int .i64 x.1.2.k, .int .i64 x.1.2.n, .string (strI x.1.2.s), .slice x.1.2.a x.1.2.l.length x.1.2.c], undef, undef, undef, undef, undef, undef, undef], defers := [] })
    (fun x a' _ X Y row hs hg hr => by obtain ⟨Bx, e1, e2, e3⟩ := hs; exact ⟨Bx, e1, heap_kept e2 hg (not_cells e2 (fun r e => (hr r e).2)), e3⟩)
    ?assign ?body ?done ?stop
  case assign =>
    rintro lp pre x W K hci hK
    dsimp only [yargs, Mv.cells]
    have HCI := hid hci
    have HKK := hid hK
    clear hci hK
    gi_wp2
    exact HKK.out _ _ ((KeepsOthers.alloc _ _).from _) ((KQ.refl _ W).alloc _) (HCI.out.kept (World.grownBy_alloc W _ none) (fun r e => by cases e)) ⟨W.heap.size, HCI.out.b1.lt, heap_alloc_new _ _, rfl⟩
  case body =>
    rintro lp pre x a' W hl ⟨r, hr⟩ hci ⟨Bx, hBx, bX, rfl⟩ hlt
    obtain ⟨c0, c1, c2, c3⟩ := cell4 bX
    have HCI := hid hci
    have HCK := hid (checkM_any W x.1)
    have hcw : (tolds (pre ++ [x])) = tolds pre ++ [x.1] := by simp [tolds]
    have HCW := hid hcw
    obtain ⟨z, hz⟩ : ∃ z, z = ckW x.1 := ⟨_, rfl⟩
    rw [← hz] at HCK
    have HZ := hid hz
    clear hci bX hlt hl hr hcw hz
    gi_wp2_with fail
    first
      | refine (CallsIn.inRound lp (callsIn_wide.2 HCK.out)).mono ?_
      | refine ⟨trivial, (CallsIn.inRound lp (callsIn_wide.2 HCK.out)).mono ?_⟩
      | refine ⟨trivial, (fun h => by cases h), (CallsIn.inRound lp (callsIn_wide.2 HCK.out)).mono ?_⟩
    rintro e w5 ⟨rfl, hb5⟩
    have HB5 := hid hb5
    have hb1 := (hb5.block _ HCI.out.b1.lt).trans HCI.out.b1
    have HB1 := hid (show Boxed w5 (w.heap.size + 1) 25 (.int .i64 0) from hb1)
    have f1 := HB1.out.frozen
    have e1 := HB1.out.cell
    clear hb5 hb1 c0 c1 c2 c3
    by_cases hz0 : z = 0
    · subst hz0
      gi_wp2
      refine ⟨(keeps_below HB5.out).from _, KQ.below HB5.out, HB1.out, HCI.out.below.trans (HB5.out.mono HCI.out.below.size), fun y hy => ?_⟩
      rw [HCW.out] at hy
      rcases List.mem_append.1 hy with hy | hy
      · exact HCI.out.zero y hy
      · simp at hy; rw [hy]; exact HZ.out.symm
    · have d1 : (z != 0) = true := by simpa using hz0
      have HN := hid hz0
      clear hz0
      gi_wp2
      refine ⟨((keeps_below HB5.out).trans (KeepsOthers.setCell _ _ _)).from _, rfl, tolds pre, x.1, HCW.out, by rw [← HZ.out]; exact HN.out, by rw [← HZ.out]; exact HB1.out.set _, (HCI.out.below.trans (HB5.out.mono HCI.out.below.size)).setCell (p := ⟨w.heap.size + 1, 0, none⟩) (by simp) _, HCI.out.zero⟩
  case done =>
    rintro D ys W hD rfl H hK
    have e1 := H.b1.cell
    have f1 := H.b1.frozen
    have HH := hid H
    clear H
    gi_wp2
    have hK' := (KeepsOthers.setCell W ⟨w.heap.size + 1, 0, none⟩ (.int .i64 0)).same D _ hK rfl
    refine ⟨by simp, .inl ⟨_, _, rfl, run_takeDeferred hK', ?_⟩⟩
    have hc5 := cell_kept (HH.out.b1.set (.int .i64 0)).cell (grownBy_putObj' _ D (.deferred none)) (fun r e => by cases e; exact ⟨_, hK', rfl⟩)
    have hv : chk 8 v.vr = 0 := HV.out.symm.trans (by
      have hz := HH.out.zero
      unfold tolds at hz
      rw [List.attach_map_subtype_val] at hz
      exact fz_zero hz)
    refine ⟨.int .i64 0, ?_, by rw [hv], (HH.out.below.setCell (p := ⟨w.heap.size + 1, 0, none⟩) (by simp) _).trans (belowK_b (w := w) (Nat.le_refl _) _ D _ _ (by omega) hK' rfl rfl)⟩
    simp [results, Try.f9, go_sem, hc5]
  case stop =>
    rintro D c pre W hD hp ⟨rfl, p, x, hpx, hx, H⟩ hK
    have e1 := H.b1.cell
    have HH := hid H
    clear H
    gi_wp2
    refine ⟨by simp, .inl ⟨_, _, rfl, run_takeDeferred hK, ?_⟩⟩
    have hc5 := cell_kept HH.out.b1.cell (grownBy_putObj' _ D (.deferred none)) (fun r e => by cases e; exact ⟨_, hK, rfl⟩)
    have hv : chk 8 v.vr = ckW x := HV.out.symm.trans (fz_at (pre := p) (by
      have h := hp.map (·.1)
      rw [List.attach_map_subtype_val] at h
      rw [← hpx]; exact h) HH.out.zero hx)
    refine ⟨.int .i64 (ckW x), ?_, by rw [hv], HH.out.below.trans (belowK_b (w := w) (Nat.le_refl _) _ D _ _ (by omega) hK rfl rfl)⟩
    simp [results, Try.f9, go_sem, hc5]
end Go.Proofs.Ytplckmoeaeabgaa
