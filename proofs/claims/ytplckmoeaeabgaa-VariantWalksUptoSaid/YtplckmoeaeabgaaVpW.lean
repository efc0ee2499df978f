/-
  The contract of variant.copied.
-/
import Derived.Test.YtplckmoeaeabgaaVlC
namespace Go.Proofs.Ytplckmoeaeabgaa
open Go Go.ChangeShapes Go.WideShapes Go.ChangeAt Go.RowKit

def CopyPost (w : World) (S : Nat → Prop) (v : Vr) (e : Ending) (w' : World) : Prop :=
  ∃ ck cn cb ca cl cc, e = .returned (.agg #[.int .i64 ck, .int .i64 cn, .string cb, .slice ca cl cc]) ∧ VS w' (fun b => S b ∨ (w.heap.size ≤ b ∧ b < w'.heap.size)) v [.int .i64 ck, .int .i64 cn, .string cb, .slice ca cl cc] ∧ Below w.heap.size w w'
set_option maxRecDepth 100000 in
theorem copy_ret {Q : Ending → World → Prop} {tmps : Array Value} {W : World} {b : Nat} {c0 c1 c2 c3 : Value} {fz : Nat × Nat} (h6 : tmps.getD 4 undef = .pointer (some ⟨b, 0, none⟩))
    (h : W.heap[b]? = some (.cells #[c0, c1, c2, c3] 24 fz)) (hq : Q (.returned (.agg #[c0, c1, c2, c3])) W) : bodyPost Try.prog Try.f51 Q Exit.ret { tmps := tmps, defers := [] } W := by
  refine bodyPost_ret (a := { tmps := tmps, defers := [] }) (v := .agg #[c0, c1, c2, c3]) ?_ rfl hq
  rw [results_cell1 (fn := Try.f51) rfl, h6]
  have := load_var W b c0 c1 c2 c3 fz h
  simp [asAddr, this, Result.andThen]
theorem wp_seq_named {P : Program} {A B : Code} {Q : Exit → Act → World → Prop} {a : Act} {w : World} (h : ∀ B', B' = B → (Code.seq A B').wp P Q a w) : (Code.seq A B).wp P Q a w := h B rfl
theorem VS.c4 {w : World} {S : Nat → Prop} {v : Vr} {cs : List Value} (h : VS w S v cs) : ∃ ck cn cb ca cl cc, cs = [.int .i64 ck, .int .i64 cn, .string cb, .slice ca cl cc] := by
  cases h
  exact ⟨_, _, _, _, _, _, rfl⟩
theorem cnt_pos (v : Vr) : 1 ≤ cntV v := by cases v; rw [cntV_mk]; omega
theorem cnt_len : ∀ l : List Vr, l.length ≤ (l.map cntV).sum
  | [] => by simp
  | x :: l => by have := cnt_len l; have := cnt_pos x; simp; omega
theorem cnt_part : ∀ {l : List Vr} {x : Vr}, x ∈ l → cntV x ≤ (l.map cntV).sum
  | y :: l, x, h => by
    simp only [List.map_cons, List.sum_cons]
    rcases List.mem_cons.1 h with rfl | h
    · omega
    · have := cnt_part h; omega
/-- A value stored whole at a place of a row. -/
def putAt (W : World) (g o : Nat) (c0 c1 c2 c3 : Value) : World := (((W.setCell ⟨g, o, none⟩ c0).setCell ⟨g, o + 1, none⟩ c1).setCell ⟨g, o + 2, none⟩ c2).setCell ⟨g, o + 3, none⟩ c3
theorem putAt_fr (W : World) (g o : Nat) (c0 c1 c2 c3 : Value) : Fr (fun b => b = g) W (putAt W g o c0 c1 c2 c3) :=
  ((((Fr.refl (fun b => b = g) W).setCell ⟨g, o, none⟩ c0 (fun _ => rfl)).setCell ⟨g, o + 1, none⟩ c1 (fun _ => rfl)).setCell ⟨g, o + 2, none⟩ c2 (fun _ => rfl)).setCell ⟨g, o + 3, none⟩ c3 (fun _ => rfl)
def arr4 (arr : Array Value) (o : Nat) (c0 c1 c2 c3 : Value) : Array Value := (((arr.setIfInBounds o c0).setIfInBounds (o + 1) c1).setIfInBounds (o + 2) c2).setIfInBounds (o + 3) c3
theorem putAt_heap {W : World} {g t o : Nat} {arr : Array Value} {c0 c1 c2 c3 : Value} (h : W.heap[g]? = some (.cells arr t (0, 0))) : (putAt W g o c0 c1 c2 c3).heap[g]? = some (.cells (arr4 arr o c0 c1 c2 c3) t (0, 0)) :=
  heap_setCell_same _ g (o + 3) _ t c3 (heap_setCell_same _ g (o + 2) _ t c2 (heap_setCell_same _ g (o + 1) _ t c1 (heap_setCell_same W g o _ t c0 h)))
theorem arr4_size (arr : Array Value) (o : Nat) (c0 c1 c2 c3 : Value) : (arr4 arr o c0 c1 c2 c3).size = arr.size := by simp [arr4]
theorem arr4_old {arr : Array Value} {o i : Nat} {c0 c1 c2 c3 : Value} (h : i < o) : (arr4 arr o c0 c1 c2 c3)[i]? = arr[i]? := by
  unfold arr4
  rw [Array.getElem?_setIfInBounds_ne (by omega), Array.getElem?_setIfInBounds_ne (by omega), Array.getElem?_setIfInBounds_ne (by omega), Array.getElem?_setIfInBounds_ne (by omega)]
theorem arr4_new {arr : Array Value} {o : Nat} {c0 c1 c2 c3 : Value} (h : o + 3 < arr.size) : ∀ t u, ([c0, c1, c2, c3] : List Value)[t]? = some u → (arr4 arr o c0 c1 c2 c3)[o + t]? = some u := by
  intro t u hu
  have ht : t < 4 := (List.getElem?_eq_some_iff.1 hu).1
  have h0 : o < arr.size := by omega
  have h1 : o + 1 < arr.size := by omega
  have h2 : o + 2 < arr.size := by omega
  match t, ht, hu with
  | 0, _, hu => simp at hu; subst hu; simp [arr4, h0]
  | 1, _, hu => simp at hu; subst hu; simp [arr4, h1]
  | 2, _, hu => simp at hu; subst hu; simp [arr4, h2]
  | 3, _, hu => simp at hu; subst hu; simp [arr4, h]
/-- Between two rounds of copied. -/
structure CW (w wr : World) (S : Nat → Prop) (l : List Vr) (g q L : Nat) (arr : Array Value) (cw : Nat → List Value) : Prop where
  hg : wr.heap[g]? = some (.cells arr 24 (0, 0))
  sz : arr.size = L * 4
  at' : ∀ j x, j < q → l[j]? = some x → (cw j).length = 4 ∧ (∀ t u, (cw j)[t]? = some u → arr[j * 4 + t]? = some u) ∧ VS wr (fun b => S b ∨ (g < b ∧ b < wr.heap.size)) x (cw j)
  below : Below w.heap.size w wr
set_option maxHeartbeats 4000000 in
set_option maxRecDepth 100000 in
theorem copied_any (v : Vr) : ∀ (lv : Int) (cs : List Value) (w : World) (S : Nat → Prop), cntV v ≤ 1048576 → 0 ≤ lv → lv ≤ 9223372036854775807 → (∀ b, S b → b < w.heap.size) → VS w S v cs →
    Calls Try.prog 51 #[.agg cs.toArray, .int .i64 lv] w (CopyPost w S v) := by
  induction v using Vr.ind with
  | h k n s l ih =>
    intro lv cs w S hcnt hlv0 hlv1 hS hv
    have hv' := hv
    cases hv' with
    | mk _ _ _ _ a c css hk hn hs hc h0 ha hl hp =>
    obtain ⟨L, hL⟩ : ∃ L, L = l.length := ⟨_, rfl⟩
    rw [← hL] at hc ha ⊢
    obtain ⟨hc1, hc2⟩ := hc
    have hLc : L ≤ 1048576 := by have := cnt_len l; rw [cntV_mk] at hcnt; omega
    have hcx : ∀ x ∈ l, cntV x ≤ 1048576 := fun x hx => by have := cnt_part hx; rw [cntV_mk] at hcnt; omega
    have HCX := hid hcx
    clear hcx hcnt
    obtain ⟨hx1, hy1⟩ := two_alloc w (.cells #[.int .i64 k, .int .i64 n, .string (strI s), .slice a L c] 24) (.cells #[.int .i64 0, .int .i64 0, .string ⟨#[]⟩, .slice none 0 0] 24)
    have hb1 : Below w.heap.size w ((w.alloc (.cells #[.int .i64 k, .int .i64 n, .string (strI s), .slice a L c] 24)).alloc (.cells #[.int .i64 0, .int .i64 0, .string ⟨#[]⟩, .slice none 0 0] 24)) := ((Below.refl w.heap.size w).alloc (Nat.le_refl _) _).alloc (by simp) _
    obtain ⟨bs, hbs⟩ : ∃ bs, bs = strI s := ⟨_, rfl⟩
    rw [← hbs] at hx1 hb1 hy1 ⊢
    have HBS := hid hbs
    have HL := hid hL
    have HV := hid hv
    have HSS := hid hS
    have HHL := hid hl
    have HHA := hid ha
    have HHP := hid hp
    have HIH := hid ih
    have HB1 := hid hb1
    have HX1 := hid hx1
    have HY1 := hid hy1
    have HK := hid hk
    have HN := hid hn
    have HBT := hid hs
    clear hv hl ha hp ih hb1 hx1 hy1 hk hn hs h0 hbs hL hS
    by_cases hL0 : L = 0
    · subst hL0
      have hl0 : l = [] := List.eq_nil_of_length_eq_zero HL.out.symm
      subst hl0
      obtain ⟨_, hy⟩ := two_alloc w (.cells #[.int .i64 k, .int .i64 n, .string bs, .slice none 0 0] 24) (.cells #[.int .i64 k, .int .i64 n, .string bs, .slice none 0 0] 24)
      have HY := hid hy
      have HBB := hid (((Below.refl w.heap.size w).alloc (Nat.le_refl _) (.cells #[.int .i64 k, .int .i64 n, .string bs, .slice none 0 0] 24)).alloc (by simp) (.cells #[.int .i64 k, .int .i64 n, .string bs, .slice none 0 0] 24))
      clear hy
      go_enter Try.func51, Try.ntmps51
      go_wp2
      refine copy_ret rfl HY.out ⟨_, _, _, _, _, _, rfl, ?_, HBB.out⟩
      rw [HBS.out]
      exact .mk k n s [] none 0 (fun _ => []) HK.out HN.out HBT.out ⟨Nat.le_refl _, by omega⟩ (fun _ => rfl) (fun h => absurd h (by simp)) (fun b o h => by cases h) (fun i x h => by simp at h)
    · have dL : ((L : Int) == 0) = false := by simp; omega
      have dL2 : (L == 0) = false := by simpa using hL0
      by_cases hv0 : lv = 0
      · subst hv0
        obtain ⟨_, hy⟩ := two_alloc w (.cells #[.int .i64 k, .int .i64 n, .string bs, .slice a L c] 24) (.cells #[.int .i64 k, .int .i64 n, .string bs, .slice a L c] 24)
        have HY := hid hy
        have HBB := hid (((Below.refl w.heap.size w).alloc (Nat.le_refl _) (.cells #[.int .i64 k, .int .i64 n, .string bs, .slice a L c] 24)).alloc (by simp) (.cells #[.int .i64 k, .int .i64 n, .string bs, .slice a L c] 24))
        clear hL0 hy
        go_enter Try.func51, Try.ntmps51
        go_wp2
        refine copy_ret rfl HY.out ⟨_, _, _, _, _, _, rfl, ?_, HBB.out⟩
        have h := VS.weak (S' := fun b => S b ∨ (w.heap.size ≤ b ∧ b < ((w.alloc (.cells #[.int .i64 k, .int .i64 n, .string bs, .slice a L c] 24)).alloc (.cells #[.int .i64 k, .int .i64 n, .string bs, .slice a L c] 24)).heap.size)) (fun b hb => .inl hb) (VS.of_blocks (w' := (w.alloc (.cells #[.int .i64 k, .int .i64 n, .string bs, .slice a L c] 24)).alloc (.cells #[.int .i64 k, .int .i64 n, .string bs, .slice a L c] 24)) (fun b hb => HBB.out.block b (HSS.out b hb)) HV.out)
        rw [← HBS.out, ← HL.out] at h
        exact h
      · have dv : (lv == 0) = false := by simpa using hv0
        have dpos : 0 < L := by omega
        have hlv2 : 1 ≤ lv := by omega
        have hwv : IntKind.i64.wrap (lv - 1) = lv - 1 := IntWalk.i64_in _ (by omega)
        obtain ⟨i0, hi, hz0, hz1, hz2⟩ := info_parts infoVar
        have hmk : ∀ u : World, (Instr.makeSlice 22 (.int .i64 (L : Int)) (.int .i64 (L : Int))).run Try.prog u = .ok (.slice (some ⟨u.heap.size, 0, none⟩) L L) (u.alloc (.cells (madeCells #[.int .i64 0, .int .i64 0, .string ⟨#[]⟩, .slice none 0 0] (L * 4)) 24)) := fun u => by
          have h := run_make (P := Try.prog) u 22 24 i0 (.agg #[.int .i64 0, .int .i64 0, .string ⟨#[]⟩, .slice none 0 0]) Try.underlying22 hi hz0 .i64 .i64 (L : Int) (L : Int) (by omega) (Int.le_refl _) (by rw [hz2]; omega) (by omega)
          rw [Int.toNat_natCast, hz1] at h
          exact h
        have HX3 := hid (heap_keep (.cells (madeCells #[.int .i64 0, .int .i64 0, .string ⟨#[]⟩, .slice none 0 0] (L * 4)) 24) HX1.out)
        have HY3 := hid (heap_keep (.cells (madeCells #[.int .i64 0, .int .i64 0, .string ⟨#[]⟩, .slice none 0 0] (L * 4)) 24) HY1.out)
        have hg3 := heap_alloc_new ((w.alloc (.cells #[.int .i64 k, .int .i64 n, .string bs, .slice a L c] 24)).alloc (.cells #[.int .i64 0, .int .i64 0, .string ⟨#[]⟩, .slice none 0 0] 24)) (.cells (madeCells #[.int .i64 0, .int .i64 0, .string ⟨#[]⟩, .slice none 0 0] (L * 4)) 24)
        simp only [World.size_alloc] at hg3
        have HG3 := hid hg3
        have HB3 := hid (HB1.out.alloc (by simp; omega) (.cells (madeCells #[.int .i64 0, .int .i64 0, .string ⟨#[]⟩, .slice none 0 0] (L * 4)) 24))
        clear hL0 hv0 hi hz0 hz1 hz2 hg3 dpos
        go_enter Try.func51, Try.ntmps51
        go_wp2
        obtain ⟨w3, hw3⟩ : ∃ w3, w3 = ((w.alloc (.cells #[.int .i64 k, .int .i64 n, .string bs, .slice a L c] 24)).alloc (.cells #[.int .i64 0, .int .i64 0, .string ⟨#[]⟩, .slice none 0 0] 24)).alloc (.cells (madeCells #[.int .i64 0, .int .i64 0, .string ⟨#[]⟩, .slice none 0 0] (L * 4)) 24) := ⟨_, rfl⟩
        obtain ⟨b2, hb2⟩ : ∃ b2, b2 = w.heap.size := ⟨_, rfl⟩
        obtain ⟨b4, hb4⟩ : ∃ b4, b4 = w.heap.size + 1 := ⟨_, rfl⟩
        obtain ⟨g, hg⟩ : ∃ g, g = w.heap.size + 1 + 1 := ⟨_, rfl⟩
        rw [← hw3] at HX3 HY3 HG3 HB3 ⊢
        rw [← hg] at HG3 ⊢
        rw [← hb4] at HY3 ⊢
        rw [← hb2] at HX3 ⊢
        have h24 : b2 ≠ b4 := by omega
        have h2g : b2 ≠ g := by omega
        have h4g : b4 ≠ g := by omega
        have h2lt : b2 < g := by omega
        have h4lt : b4 < g := by omega
        have hl2 : w.heap.size ≤ b2 := by omega
        have hl4 : w.heap.size ≤ b4 := by omega
        have hlg : w.heap.size ≤ g := by omega
        have HCW := hid (show CW w w3 S l g 0 L (madeCells #[.int .i64 0, .int .i64 0, .string ⟨#[]⟩, .slice none 0 0] (L * 4)) (fun _ => []) from ⟨HG3.out, size_madeCells _ _, fun j x hj => absurd hj (by omega), HB3.out⟩)
        clear hw3 hb2 hb4 hg hmk HG3 HB1 HX1 HY1 HB3
        go_loopw [24] (fun iv wr => ∃ (q : Nat) (arr : Array Value) (cw : Nat → List Value), q ≤ L ∧ iv = .int .i64 q ∧ RowKit.Hid (CW w wr S l g q L arr cw) ∧ RowKit.Hid (wr.heap[b2]? = some (.cells #[.int .i64 k, .int .i64 n, .string bs, .slice a L c] 24 (0, 0))) ∧ RowKit.Hid (wr.heap[b4]? = some (.cells #[.int .i64 0, .int .i64 0, .string ⟨#[]⟩, .slice none 0 0] 24 (0, 0)))) (fun iv _ => L - (intOf iv).toNat)
        case atStart => exact ⟨0, _, _, by omega, rfl, HCW, HX3, HY3⟩
        case round =>
          obtain ⟨q, arr, cw, hq, rfl, HR, HXr, HYr⟩ := hrel
          by_cases hqL : q < L
          · have hx : l[q]? = some (l[q]'(by rw [← HL.out]; exact hqL)) := List.getElem?_eq_getElem _
            generalize l[q]'(by rw [← HL.out]; exact hqL) = x at hx
            obtain ⟨b, o, rfl, hSb⟩ := HHA.out (by omega)
            have hat := HHL.out b o rfl q x hx
            have hvx := HHP.out q x hx
            obtain ⟨xk, xn, xs, xa, xl, xc, hcq⟩ := VS.c4 hvx
            rw [hcq] at hat hvx
            have hatr : AtL wr b (o + q * 4) [.int .i64 xk, .int .i64 xn, .string xs, .slice xa xl xc] := hat.below HR.out.below
            obtain ⟨e0, e1, e2, e3⟩ := row_cells hatr
            have hb1 : Below w.heap.size w (wr.alloc (.cells #[.int .i64 xk, .int .i64 xn, .string xs, .slice xa xl xc] 24)) := HR.out.below.alloc HR.out.below.size _
            have HIX := hid (HIH.out x (List.mem_of_getElem? hx) (lv - 1) [.int .i64 xk, .int .i64 xn, .string xs, .slice xa xl xc] (wr.alloc (.cells #[.int .i64 xk, .int .i64 xn, .string xs, .slice xa xl xc] 24)) S (HCX.out x (List.mem_of_getElem? hx)) (by omega) (by omega) (fun b hb => Nat.lt_of_lt_of_le (HSS.out b hb) hb1.size) (VS.of_blocks (fun b hb => hb1.block b (HSS.out b hb)) hvx))
            have HX := hid hx
            have HB1 := hid hb1
            clear hx hat hvx hcq hatr hb1
            go_wp2_with fail
            refine HIX.out.mono ?_
            rintro e w5 ⟨ck, cn, cb, ca, cl, cc, rfl, hx5, hb5⟩
            have hb15 : Below wr.heap.size wr w5 := ((Below.refl _ wr).alloc (Nat.le_refl _) (.cells #[.int .i64 xk, .int .i64 xn, .string xs, .slice xa xl xc] 24)).trans (hb5.mono (by simp))
            have hg5 := (hb15.block g (lt_of_heap HR.out.hg)).trans HR.out.hg
            have hX5 := (hb15.block b2 (lt_of_heap HXr.out)).trans HXr.out
            have hY5 := (hb15.block b4 (lt_of_heap HYr.out)).trans HYr.out
            have hsz := HR.out.sz
            obtain ⟨u0, f0⟩ : ∃ u, w5.cell? ⟨g, q * 4, none⟩ = some u := ⟨arr[q * 4]'(by omega), by rw [cell_of_row _ _ _ _ _ _ hg5]; simp⟩
            obtain ⟨u1, f1⟩ : ∃ u, w5.cell? ⟨g, q * 4 + 1, none⟩ = some u := ⟨arr[q * 4 + 1]'(by omega), by rw [cell_of_row _ _ _ _ _ _ hg5]; simp⟩
            obtain ⟨u2, f2⟩ : ∃ u, w5.cell? ⟨g, q * 4 + 2, none⟩ = some u := ⟨arr[q * 4 + 2]'(by omega), by rw [cell_of_row _ _ _ _ _ _ hg5]; simp⟩
            obtain ⟨u3, f3⟩ : ∃ u, w5.cell? ⟨g, q * 4 + 3, none⟩ = some u := ⟨arr[q * 4 + 3]'(by omega), by rw [cell_of_row _ _ _ _ _ _ hg5]; simp⟩
            have zg := fun k => frozen_of_row w5 g k _ _ hg5
            have hglt := lt_of_heap HR.out.hg
            have hsr := HR.out.below.size
            have hpf := putAt_fr w5 g (q * 4) (.int .i64 ck) (.int .i64 cn) (.string cb) (.slice ca cl cc)
            have hSg : ∀ b, S b → b < g := fun b hb => Nat.lt_of_lt_of_le (HSS.out b hb) hlg
            have hmove : ∀ (y : Vr) (d : List Value), VS w5 (fun b => S b ∨ (g < b ∧ b < w5.heap.size)) y d → VS (putAt w5 g (q * 4) (.int .i64 ck) (.int .i64 cn) (.string cb) (.slice ca cl cc)) (fun b => S b ∨ (g < b ∧ b < (putAt w5 g (q * 4) (.int .i64 ck) (.int .i64 cn) (.string cb) (.slice ca cl cc)).heap.size)) y d := fun y d hy =>
              VS.weak (fun b hb => hb.imp id (fun h => ⟨h.1, Nat.lt_of_lt_of_le h.2 hpf.size⟩)) (VS.of_blocks (fun b hb => hpf.block b (by
                rcases hb with h | h
                · exact Nat.lt_of_lt_of_le (HSS.out b h) (Nat.le_trans hsr hb15.size)
                · exact h.2) (by
                rcases hb with h | h
                · have := hSg b h; omega
                · have := h.1; omega)) hy)
            have HC8 := hid (show CW w (putAt w5 g (q * 4) (.int .i64 ck) (.int .i64 cn) (.string cb) (.slice ca cl cc)) S l g (q + 1) L (arr4 arr (q * 4) (.int .i64 ck) (.int .i64 cn) (.string cb) (.slice ca cl cc)) (fun j => if j = q then [.int .i64 ck, .int .i64 cn, .string cb, .slice ca cl cc] else cw j) from ⟨putAt_heap hg5, by rw [arr4_size]; exact hsz, fun j y hj hy => by
              by_cases ejq : j = q
              · subst ejq
                rw [HX.out] at hy; cases hy
                simp only [if_pos]
                exact ⟨rfl, arr4_new (by omega), hmove _ _ (VS.weak (fun b hb => hb.imp id (fun h => ⟨by have := h.1; simp at this; omega, h.2⟩)) hx5)⟩
              · simp only [if_neg ejq]
                obtain ⟨g1, g2, g3⟩ := HR.out.at' j y (by omega) hy
                refine ⟨g1, fun t u hu => ?_, hmove _ _ (VS.weak (fun b hb => hb.imp id (fun h => ⟨h.1, Nat.lt_of_lt_of_le h.2 hb15.size⟩)) (VS.of_blocks (fun b hb => hb15.block b (by
                  rcases hb with h | h
                  · exact Nat.lt_of_lt_of_le (HSS.out b h) hsr
                  · exact h.2)) g3))⟩
                have ht : t < 4 := by have := (List.getElem?_eq_some_iff.1 hu).1; omega
                rw [arr4_old (by omega)]
                exact g2 t u hu, (HR.out.below.trans (hb15.mono hsr)).trans (hpf.below (Nat.le_trans hsr hb15.size) (fun k hk => by rw [hk]; exact hlg))⟩)
            have HX8 := hid ((hpf.block b2 (lt_of_heap hX5) h2g).trans hX5)
            have HY8 := hid ((hpf.block b4 (lt_of_heap hY5) h4g).trans hY5)
            clear hb5 hb15 hg5 hX5 hY5 hsz hpf hmove hSg hx5 hglt hsr e0 e1 e2 e3 HIX
            go_wp2
            go_roundw
            case rel => exact ⟨q + 1, _, _, by omega, by go_num, HC8, HX8, HY8⟩
            case measure => simp [intOf]; omega
          · obtain rfl : q = L := by omega
            rename_i K2 h2
            have H2 := hid h2
            clear h2
            obtain ⟨_, _, _, v3⟩ := box_cells HXr.out
            have z2 := fun k => frozen_of_row wr b2 k _ _ HXr.out
            go_wp2
            refine H2.out _ _ ?_
            refine wp_seq_named ?_
            intro B' hB'
            have HBB := hid hB'
            clear hB' H2
            go_wp2
            have hs2 : Fr (fun b => b = b2) wr (wr.setCell ⟨b2, 3, none⟩ (.slice (some ⟨g, 0, none⟩) q q)) := (Fr.refl _ wr).setCell _ _ (fun _ => rfl)
            have hx7 : (wr.setCell ⟨b2, 3, none⟩ (.slice (some ⟨g, 0, none⟩) q q)).heap[b2]? = some (.cells #[.int .i64 k, .int .i64 n, .string bs, .slice (some ⟨g, 0, none⟩) q q] 24 (0, 0)) := by rw [heap_setCell_same wr b2 3 _ _ _ HXr.out]; rfl
            have hy7 := (hs2.block b4 (lt_of_heap HYr.out) (fun e => h24 e.symm)).trans HYr.out
            have hb7 := HR.out.below.trans (hs2.below HR.out.below.size (fun k hk => by rw [hk]; exact hl2))
            have hg7 := (hs2.block g (lt_of_heap HR.out.hg) (fun e => h2g e.symm)).trans HR.out.hg
            obtain ⟨w7, hw7⟩ : ∃ w7, w7 = wr.setCell ⟨b2, 3, none⟩ (.slice (some ⟨g, 0, none⟩) q q) := ⟨_, rfl⟩
            rw [← hw7] at hs2 hx7 hy7 hb7 hg7 ⊢
            clear hw7 v3 z2
            obtain ⟨v0, v1, v2, v3⟩ := box_cells hx7
            obtain ⟨r0, r1, r2, r3⟩ := box_cells hy7
            have z4 := fun k => frozen_of_row w7 b4 k _ _ hy7
            have hpf := put4_fr w7 b4 (.int .i64 k) (.int .i64 n) (.string bs) (.slice (some ⟨g, 0, none⟩) q q)
            have HHF := hid (put4_heap (c0 := .int .i64 k) (c1 := .int .i64 n) (c2 := .string bs) (c3 := .slice (some ⟨g, 0, none⟩) q q) hy7)
            have HBF := hid (hb7.trans (hpf.below hb7.size (fun k hk => by rw [hk]; exact hl4)))
            have HG8 := hid ((hpf.block g (lt_of_heap hg7) (fun e => h4g e.symm)).trans hg7)
            have HPF := hid hpf
            have HS2 := hid hs2
            clear hs2 hx7 hy7 hb7 hg7 hpf
            rw [HBB.out]
            clear HBB
            go_wp2
            refine copy_ret rfl HHF.out ⟨_, _, _, _, _, _, rfl, ?_, HBF.out⟩
            have hall : ∀ (j : Nat) x, l[j]? = some x → j < q := fun j x hx => by have := (List.getElem?_eq_some_iff.1 hx).1; have := HL.out; omega
            have hkeep : ∀ b, (S b ∨ (g < b ∧ b < wr.heap.size)) → (put4 w7 b4 (.int .i64 k) (.int .i64 n) (.string bs) (.slice (some ⟨g, 0, none⟩) q q)).heap[b]? = wr.heap[b]? := fun b hb => by
              have hlt : b < wr.heap.size := by
                rcases hb with h | h
                · exact Nat.lt_of_lt_of_le (HSS.out b h) HR.out.below.size
                · exact h.2
              have hn2 : b ≠ b2 ∧ b ≠ b4 := by
                rcases hb with h | h
                · have := HSS.out b h; omega
                · have := h.1; omega
              exact (HPF.out.block b (Nat.lt_of_lt_of_le hlt HS2.out.size) hn2.2).trans (HS2.out.block b hlt hn2.1)
            have hVS := VS.mk (w := put4 w7 b4 (.int .i64 k) (.int .i64 n) (.string bs) (.slice (some ⟨g, 0, none⟩) q q)) (S := fun b => S b ∨ (w.heap.size ≤ b ∧ b < (put4 w7 b4 (.int .i64 k) (.int .i64 n) (.string bs) (.slice (some ⟨g, 0, none⟩) q q)).heap.size)) k n s l (some ⟨g, 0, none⟩) q cw HK.out HN.out HBT.out ⟨by rw [← HL.out]; exact Nat.le_refl _, by omega⟩ (fun h => by cases h)
              (fun _ => ⟨g, 0, rfl, .inr ⟨hlg, lt_of_heap HG8.out⟩⟩)
              (fun b o he i x hx t u hu => by
                cases he
                have hiq := hall i x hx
                obtain ⟨g1, g2, _⟩ := HR.out.at' i x hiq hx
                rw [cell_of_row _ _ _ _ _ _ HG8.out, Nat.zero_add]
                exact g2 t u hu)
              (fun i x hx => VS.weak (fun b hb => hb.imp id (fun h => ⟨by have := h.1; omega, Nat.lt_of_lt_of_le h.2 (Nat.le_trans HS2.out.size HPF.out.size)⟩)) (VS.of_blocks hkeep (HR.out.at' i x (hall i x hx) hx).2.2))
            rw [← HL.out, ← HBS.out] at hVS
            exact hVS
end Go.Proofs.Ytplckmoeaeabgaa
