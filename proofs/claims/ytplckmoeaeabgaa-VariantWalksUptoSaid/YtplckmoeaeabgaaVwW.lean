/- VpX VpG Mem VwW in one -/
import Derived.Test.YtplckmoeaeabgaaVpW
import Derived.Test.YtplckmoeaeabgaaVsL
import Derived.RangeFuncNested
import Derived.RangeFuncBound
import Derived.RangeFuncCalls
import Derived.RangeFuncLeaves
import Derived.RangeFuncFrom
import Derived.RangeFuncBox
import Derived.Test.YtplckmoeaeabgaaMixR
namespace Go.Proofs.Ytplckmoeaeabgaa
open Go Go.ChangeShapes Go.WideShapes Go.ChangeAt Go.RowKit

/-- A block of values. -/
def TB (w : World) (b : Nat) : Prop := ∃ cs fr, w.heap[b]? = some (.cells cs 24 fr)
theorem TB.lt {w : World} {b : Nat} (h : TB w b) : b < w.heap.size := by obtain ⟨_, _, h⟩ := h; exact lt_of_heap h
theorem TB.to {w w' : World} {b : Nat} (h : TB w b) (hb : w'.heap[b]? = w.heap[b]?) : TB w' b := by obtain ⟨cs, fr, h⟩ := h; exact ⟨cs, fr, hb.trans h⟩
def CopyT (w : World) (S : Nat → Prop) (v : Vr) (e : Ending) (w' : World) : Prop :=
  ∃ ck cn cb ca cl cc, e = .returned (.agg #[.int .i64 ck, .int .i64 cn, .string cb, .slice ca cl cc]) ∧ VS w' (fun b => S b ∨ (w.heap.size ≤ b ∧ TB w' b)) v [.int .i64 ck, .int .i64 cn, .string cb, .slice ca cl cc] ∧ Below w.heap.size w w'
/-- Between two rounds of copied. -/
structure CpX (w wr : World) (S : Nat → Prop) (l : List Vr) (g q L : Nat) (arr : Array Value) (cw : Nat → List Value) : Prop where
  hg : wr.heap[g]? = some (.cells arr 24 (0, 0))
  sz : arr.size = L * 4
  at' : ∀ j x, j < q → l[j]? = some x → (cw j).length = 4 ∧ (∀ t u, (cw j)[t]? = some u → arr[j * 4 + t]? = some u) ∧ VS wr (fun b => S b ∨ (g < b ∧ TB wr b)) x (cw j)
  below : Below w.heap.size w wr
set_option maxHeartbeats 4000000 in
set_option maxRecDepth 100000 in
theorem copied_typed (v : Vr) : ∀ (lv : Int) (cs : List Value) (w : World) (S : Nat → Prop), cntV v ≤ 1048576 → 0 ≤ lv → lv ≤ 9223372036854775807 → (∀ b, S b → b < w.heap.size) → VS w S v cs →
    Calls Try.prog 51 #[.agg cs.toArray, .int .i64 lv] w (CopyT w S v) := by
  induction v using Vr.ind with
  | h k n s l ih =>
    intro lv cs w S hcnt hlv0 hlv1 hS hv
    have hv' := hv
    cases hv' with
    | mk _ _ _ _ a c css hk hn hs hc h0 ha hl hp =>
    obtain ⟨L, hL⟩ : ∃ L, L = l.length := ⟨_, rfl⟩
    rw [← hL] at hc ha ⊢
    obtain ⟨hc1, hc2⟩ := hc
    have hLc : L ≤ 1048576 := by have := cnt_len l; rw [cntV_mk] at hcnt; omega
    have hcx : ∀ x ∈ l, cntV x ≤ 1048576 := fun x hx => by have := cnt_part hx; rw [cntV_mk] at hcnt; omega
    have HCX := hid hcx
    clear hcx hcnt
    obtain ⟨hx1, hy1⟩ := two_alloc w (.cells #[.int .i64 k, .int .i64 n, .string (strI s), .slice a L c] 24) (.cells #[.int .i64 0, .int .i64 0, .string ⟨#[]⟩, .slice none 0 0] 24)
    have hb1 : Below w.heap.size w ((w.alloc (.cells #[.int .i64 k, .int .i64 n, .string (strI s), .slice a L c] 24)).alloc (.cells #[.int .i64 0, .int .i64 0, .string ⟨#[]⟩, .slice none 0 0] 24)) := ((Below.refl w.heap.size w).alloc (Nat.le_refl _) _).alloc (by simp) _
    obtain ⟨bs, hbs⟩ : ∃ bs, bs = strI s := ⟨_, rfl⟩
    rw [← hbs] at hx1 hb1 hy1 ⊢
    have HBS := hid hbs
    have HL := hid hL
    have HV := hid hv
    have HSS := hid hS
    have HHL := hid hl
    have HHA := hid ha
    have HHP := hid hp
    have HIH := hid ih
    have HB1 := hid hb1
    have HX1 := hid hx1
    have HY1 := hid hy1
    have HK := hid hk
    have HN := hid hn
    have HBT := hid hs
    clear hv hl ha hp ih hb1 hx1 hy1 hk hn hs h0 hbs hL hS
    by_cases hL0 : L = 0
    · subst hL0
      have hl0 : l = [] := List.eq_nil_of_length_eq_zero HL.out.symm
      subst hl0
      obtain ⟨_, hy⟩ := two_alloc w (.cells #[.int .i64 k, .int .i64 n, .string bs, .slice none 0 0] 24) (.cells #[.int .i64 k, .int .i64 n, .string bs, .slice none 0 0] 24)
      have HY := hid hy
      have HBB := hid (((Below.refl w.heap.size w).alloc (Nat.le_refl _) (.cells #[.int .i64 k, .int .i64 n, .string bs, .slice none 0 0] 24)).alloc (by simp) (.cells #[.int .i64 k, .int .i64 n, .string bs, .slice none 0 0] 24))
      clear hy
      go_enter Try.func51, Try.ntmps51
      go_wp2
      refine copy_ret rfl HY.out ⟨_, _, _, _, _, _, rfl, ?_, HBB.out⟩
      rw [HBS.out]
      exact .mk k n s [] none 0 (fun _ => []) HK.out HN.out HBT.out ⟨Nat.le_refl _, by omega⟩ (fun _ => rfl) (fun h => absurd h (by simp)) (fun b o h => by cases h) (fun i x h => by simp at h)
    · have dL : ((L : Int) == 0) = false := by simp; omega
      have dL2 : (L == 0) = false := by simpa using hL0
      by_cases hv0 : lv = 0
      · subst hv0
        obtain ⟨_, hy⟩ := two_alloc w (.cells #[.int .i64 k, .int .i64 n, .string bs, .slice a L c] 24) (.cells #[.int .i64 k, .int .i64 n, .string bs, .slice a L c] 24)
        have HY := hid hy
        have HBB := hid (((Below.refl w.heap.size w).alloc (Nat.le_refl _) (.cells #[.int .i64 k, .int .i64 n, .string bs, .slice a L c] 24)).alloc (by simp) (.cells #[.int .i64 k, .int .i64 n, .string bs, .slice a L c] 24))
        clear hL0 hy
        go_enter Try.func51, Try.ntmps51
        go_wp2
        refine copy_ret rfl HY.out ⟨_, _, _, _, _, _, rfl, ?_, HBB.out⟩
        have h := VS.weak (S' := fun b => S b ∨ (w.heap.size ≤ b ∧ TB ((w.alloc (.cells #[.int .i64 k, .int .i64 n, .string bs, .slice a L c] 24)).alloc (.cells #[.int .i64 k, .int .i64 n, .string bs, .slice a L c] 24)) b)) (fun b hb => .inl hb) (VS.of_blocks (w' := (w.alloc (.cells #[.int .i64 k, .int .i64 n, .string bs, .slice a L c] 24)).alloc (.cells #[.int .i64 k, .int .i64 n, .string bs, .slice a L c] 24)) (fun b hb => HBB.out.block b (HSS.out b hb)) HV.out)
        rw [← HBS.out, ← HL.out] at h
        exact h
      · have dv : (lv == 0) = false := by simpa using hv0
        have dpos : 0 < L := by omega
        have hlv2 : 1 ≤ lv := by omega
        have hwv : IntKind.i64.wrap (lv - 1) = lv - 1 := IntWalk.i64_in _ (by omega)
        obtain ⟨i0, hi, hz0, hz1, hz2⟩ := info_parts infoVar
        have hmk : ∀ u : World, (Instr.makeSlice 22 (.int .i64 (L : Int)) (.int .i64 (L : Int))).run Try.prog u = .ok (.slice (some ⟨u.heap.size, 0, none⟩) L L) (u.alloc (.cells (madeCells #[.int .i64 0, .int .i64 0, .string ⟨#[]⟩, .slice none 0 0] (L * 4)) 24)) := fun u => by
          have h := run_make (P := Try.prog) u 22 24 i0 (.agg #[.int .i64 0, .int .i64 0, .string ⟨#[]⟩, .slice none 0 0]) Try.underlying22 hi hz0 .i64 .i64 (L : Int) (L : Int) (by omega) (Int.le_refl _) (by rw [hz2]; omega) (by omega)
          rw [Int.toNat_natCast, hz1] at h
          exact h
        have HX3 := hid (heap_keep (.cells (madeCells #[.int .i64 0, .int .i64 0, .string ⟨#[]⟩, .slice none 0 0] (L * 4)) 24) HX1.out)
        have HY3 := hid (heap_keep (.cells (madeCells #[.int .i64 0, .int .i64 0, .string ⟨#[]⟩, .slice none 0 0] (L * 4)) 24) HY1.out)
        have hg3 := heap_alloc_new ((w.alloc (.cells #[.int .i64 k, .int .i64 n, .string bs, .slice a L c] 24)).alloc (.cells #[.int .i64 0, .int .i64 0, .string ⟨#[]⟩, .slice none 0 0] 24)) (.cells (madeCells #[.int .i64 0, .int .i64 0, .string ⟨#[]⟩, .slice none 0 0] (L * 4)) 24)
        simp only [World.size_alloc] at hg3
        have HG3 := hid hg3
        have HB3 := hid (HB1.out.alloc (by simp; omega) (.cells (madeCells #[.int .i64 0, .int .i64 0, .string ⟨#[]⟩, .slice none 0 0] (L * 4)) 24))
        clear hL0 hv0 hi hz0 hz1 hz2 hg3 dpos
        go_enter Try.func51, Try.ntmps51
        go_wp2
        obtain ⟨w3, hw3⟩ : ∃ w3, w3 = ((w.alloc (.cells #[.int .i64 k, .int .i64 n, .string bs, .slice a L c] 24)).alloc (.cells #[.int .i64 0, .int .i64 0, .string ⟨#[]⟩, .slice none 0 0] 24)).alloc (.cells (madeCells #[.int .i64 0, .int .i64 0, .string ⟨#[]⟩, .slice none 0 0] (L * 4)) 24) := ⟨_, rfl⟩
        obtain ⟨b2, hb2⟩ : ∃ b2, b2 = w.heap.size := ⟨_, rfl⟩
        obtain ⟨b4, hb4⟩ : ∃ b4, b4 = w.heap.size + 1 := ⟨_, rfl⟩
        obtain ⟨g, hg⟩ : ∃ g, g = w.heap.size + 1 + 1 := ⟨_, rfl⟩
        rw [← hw3] at HX3 HY3 HG3 HB3 ⊢
        rw [← hg] at HG3 ⊢
        rw [← hb4] at HY3 ⊢
        rw [← hb2] at HX3 ⊢
        have h24 : b2 ≠ b4 := by omega
        have h2g : b2 ≠ g := by omega
        have h4g : b4 ≠ g := by omega
        have h2lt : b2 < g := by omega
        have h4lt : b4 < g := by omega
        have hl2 : w.heap.size ≤ b2 := by omega
        have hl4 : w.heap.size ≤ b4 := by omega
        have hlg : w.heap.size ≤ g := by omega
        have HCW := hid (show CpX w w3 S l g 0 L (madeCells #[.int .i64 0, .int .i64 0, .string ⟨#[]⟩, .slice none 0 0] (L * 4)) (fun _ => []) from ⟨HG3.out, size_madeCells _ _, fun j x hj => absurd hj (by omega), HB3.out⟩)
        clear hw3 hb2 hb4 hg hmk HG3 HB1 HX1 HY1 HB3
        go_loopw [24] (fun iv wr => ∃ (q : Nat) (arr : Array Value) (cw : Nat → List Value), q ≤ L ∧ iv = .int .i64 q ∧ RowKit.Hid (CpX w wr S l g q L arr cw) ∧ RowKit.Hid (wr.heap[b2]? = some (.cells #[.int .i64 k, .int .i64 n, .string bs, .slice a L c] 24 (0, 0))) ∧ RowKit.Hid (wr.heap[b4]? = some (.cells #[.int .i64 0, .int .i64 0, .string ⟨#[]⟩, .slice none 0 0] 24 (0, 0)))) (fun iv _ => L - (intOf iv).toNat)
        case atStart => exact ⟨0, _, _, by omega, rfl, HCW, HX3, HY3⟩
        case round =>
          obtain ⟨q, arr, cw, hq, rfl, HR, HXr, HYr⟩ := hrel
          by_cases hqL : q < L
          · have hx : l[q]? = some (l[q]'(by rw [← HL.out]; exact hqL)) := List.getElem?_eq_getElem _
            generalize l[q]'(by rw [← HL.out]; exact hqL) = x at hx
            obtain ⟨b, o, rfl, hSb⟩ := HHA.out (by omega)
            have hat := HHL.out b o rfl q x hx
            have hvx := HHP.out q x hx
            obtain ⟨xk, xn, xs, xa, xl, xc, hcq⟩ := VS.c4 hvx
            rw [hcq] at hat hvx
            have hatr : AtL wr b (o + q * 4) [.int .i64 xk, .int .i64 xn, .string xs, .slice xa xl xc] := hat.below HR.out.below
            obtain ⟨e0, e1, e2, e3⟩ := row_cells hatr
            have hb1 : Below w.heap.size w (wr.alloc (.cells #[.int .i64 xk, .int .i64 xn, .string xs, .slice xa xl xc] 24)) := HR.out.below.alloc HR.out.below.size _
            have HIX := hid (HIH.out x (List.mem_of_getElem? hx) (lv - 1) [.int .i64 xk, .int .i64 xn, .string xs, .slice xa xl xc] (wr.alloc (.cells #[.int .i64 xk, .int .i64 xn, .string xs, .slice xa xl xc] 24)) S (HCX.out x (List.mem_of_getElem? hx)) (by omega) (by omega) (fun b hb => Nat.lt_of_lt_of_le (HSS.out b hb) hb1.size) (VS.of_blocks (fun b hb => hb1.block b (HSS.out b hb)) hvx))
            have HX := hid hx
            have HB1 := hid hb1
            clear hx hat hvx hcq hatr hb1
            go_wp2_with fail
            refine HIX.out.mono ?_
            rintro e w5 ⟨ck, cn, cb, ca, cl, cc, rfl, hx5, hb5⟩
            have hb15 : Below wr.heap.size wr w5 := ((Below.refl _ wr).alloc (Nat.le_refl _) (.cells #[.int .i64 xk, .int .i64 xn, .string xs, .slice xa xl xc] 24)).trans (hb5.mono (by simp))
            have hg5 := (hb15.block g (lt_of_heap HR.out.hg)).trans HR.out.hg
            have hX5 := (hb15.block b2 (lt_of_heap HXr.out)).trans HXr.out
            have hY5 := (hb15.block b4 (lt_of_heap HYr.out)).trans HYr.out
            have hsz := HR.out.sz
            obtain ⟨u0, f0⟩ : ∃ u, w5.cell? ⟨g, q * 4, none⟩ = some u := ⟨arr[q * 4]'(by omega), by rw [cell_of_row _ _ _ _ _ _ hg5]; simp⟩
            obtain ⟨u1, f1⟩ : ∃ u, w5.cell? ⟨g, q * 4 + 1, none⟩ = some u := ⟨arr[q * 4 + 1]'(by omega), by rw [cell_of_row _ _ _ _ _ _ hg5]; simp⟩
            obtain ⟨u2, f2⟩ : ∃ u, w5.cell? ⟨g, q * 4 + 2, none⟩ = some u := ⟨arr[q * 4 + 2]'(by omega), by rw [cell_of_row _ _ _ _ _ _ hg5]; simp⟩
            obtain ⟨u3, f3⟩ : ∃ u, w5.cell? ⟨g, q * 4 + 3, none⟩ = some u := ⟨arr[q * 4 + 3]'(by omega), by rw [cell_of_row _ _ _ _ _ _ hg5]; simp⟩
            have zg := fun k => frozen_of_row w5 g k _ _ hg5
            have hglt := lt_of_heap HR.out.hg
            have hsr := HR.out.below.size
            have hpf := putAt_fr w5 g (q * 4) (.int .i64 ck) (.int .i64 cn) (.string cb) (.slice ca cl cc)
            have hSg : ∀ b, S b → b < g := fun b hb => Nat.lt_of_lt_of_le (HSS.out b hb) hlg
            have hmove : ∀ (y : Vr) (d : List Value), VS w5 (fun b => S b ∨ (g < b ∧ TB w5 b)) y d → VS (putAt w5 g (q * 4) (.int .i64 ck) (.int .i64 cn) (.string cb) (.slice ca cl cc)) (fun b => S b ∨ (g < b ∧ TB (putAt w5 g (q * 4) (.int .i64 ck) (.int .i64 cn) (.string cb) (.slice ca cl cc)) b)) y d := fun y d hy =>
              VS.weak (fun b hb => hb.imp id (fun h => ⟨h.1, h.2.to (hpf.block b h.2.lt (by have := h.1; omega))⟩)) (VS.of_blocks (fun b hb => hpf.block b (by
                rcases hb with h | h
                · exact Nat.lt_of_lt_of_le (HSS.out b h) (Nat.le_trans hsr hb15.size)
                · exact h.2.lt) (by
                rcases hb with h | h
                · have := hSg b h; omega
                · have := h.1; omega)) hy)
            have HC8 := hid (show CpX w (putAt w5 g (q * 4) (.int .i64 ck) (.int .i64 cn) (.string cb) (.slice ca cl cc)) S l g (q + 1) L (arr4 arr (q * 4) (.int .i64 ck) (.int .i64 cn) (.string cb) (.slice ca cl cc)) (fun j => if j = q then [.int .i64 ck, .int .i64 cn, .string cb, .slice ca cl cc] else cw j) from ⟨putAt_heap hg5, by rw [arr4_size]; exact hsz, fun j y hj hy => by
              by_cases ejq : j = q
              · subst ejq
                rw [HX.out] at hy; cases hy
                simp only [if_pos]
                exact ⟨rfl, arr4_new (by omega), hmove _ _ (VS.weak (fun b hb => hb.imp id (fun h => ⟨by have := h.1; simp at this; omega, h.2⟩)) hx5)⟩
              · simp only [if_neg ejq]
                obtain ⟨g1, g2, g3⟩ := HR.out.at' j y (by omega) hy
                refine ⟨g1, fun t u hu => ?_, hmove _ _ (VS.weak (fun b hb => hb.imp id (fun h => ⟨h.1, h.2.to (hb15.block b h.2.lt)⟩)) (VS.of_blocks (fun b hb => hb15.block b (by
                  rcases hb with h | h
                  · exact Nat.lt_of_lt_of_le (HSS.out b h) hsr
                  · exact h.2.lt)) g3))⟩
                have ht : t < 4 := by have := (List.getElem?_eq_some_iff.1 hu).1; omega
                rw [arr4_old (by omega)]
                exact g2 t u hu, (HR.out.below.trans (hb15.mono hsr)).trans (hpf.below (Nat.le_trans hsr hb15.size) (fun k hk => by rw [hk]; exact hlg))⟩)
            have HX8 := hid ((hpf.block b2 (lt_of_heap hX5) h2g).trans hX5)
            have HY8 := hid ((hpf.block b4 (lt_of_heap hY5) h4g).trans hY5)
            clear hb5 hb15 hg5 hX5 hY5 hsz hpf hmove hSg hx5 hglt hsr e0 e1 e2 e3 HIX
            go_wp2
            go_roundw
            case rel => exact ⟨q + 1, _, _, by omega, by go_num, HC8, HX8, HY8⟩
            case measure => simp [intOf]; omega
          · obtain rfl : q = L := by omega
            rename_i K2 h2
            have H2 := hid h2
            clear h2
            obtain ⟨_, _, _, v3⟩ := box_cells HXr.out
            have z2 := fun k => frozen_of_row wr b2 k _ _ HXr.out
            go_wp2
            refine H2.out _ _ ?_
            refine wp_seq_named ?_
            intro B' hB'
            have HBB := hid hB'
            clear hB' H2
            go_wp2
            have hs2 : Fr (fun b => b = b2) wr (wr.setCell ⟨b2, 3, none⟩ (.slice (some ⟨g, 0, none⟩) q q)) := (Fr.refl _ wr).setCell _ _ (fun _ => rfl)
            have hx7 : (wr.setCell ⟨b2, 3, none⟩ (.slice (some ⟨g, 0, none⟩) q q)).heap[b2]? = some (.cells #[.int .i64 k, .int .i64 n, .string bs, .slice (some ⟨g, 0, none⟩) q q] 24 (0, 0)) := by rw [heap_setCell_same wr b2 3 _ _ _ HXr.out]; rfl
            have hy7 := (hs2.block b4 (lt_of_heap HYr.out) (fun e => h24 e.symm)).trans HYr.out
            have hb7 := HR.out.below.trans (hs2.below HR.out.below.size (fun k hk => by rw [hk]; exact hl2))
            have hg7 := (hs2.block g (lt_of_heap HR.out.hg) (fun e => h2g e.symm)).trans HR.out.hg
            obtain ⟨w7, hw7⟩ : ∃ w7, w7 = wr.setCell ⟨b2, 3, none⟩ (.slice (some ⟨g, 0, none⟩) q q) := ⟨_, rfl⟩
            rw [← hw7] at hs2 hx7 hy7 hb7 hg7 ⊢
            clear hw7 v3 z2
            obtain ⟨v0, v1, v2, v3⟩ := box_cells hx7
            obtain ⟨r0, r1, r2, r3⟩ := box_cells hy7
            have z4 := fun k => frozen_of_row w7 b4 k _ _ hy7
            have hpf := put4_fr w7 b4 (.int .i64 k) (.int .i64 n) (.string bs) (.slice (some ⟨g, 0, none⟩) q q)
            have HHF := hid (put4_heap (c0 := .int .i64 k) (c1 := .int .i64 n) (c2 := .string bs) (c3 := .slice (some ⟨g, 0, none⟩) q q) hy7)
            have HBF := hid (hb7.trans (hpf.below hb7.size (fun k hk => by rw [hk]; exact hl4)))
            have HG8 := hid ((hpf.block g (lt_of_heap hg7) (fun e => h4g e.symm)).trans hg7)
            have HPF := hid hpf
            have HS2 := hid hs2
            clear hs2 hx7 hy7 hb7 hg7 hpf
            rw [HBB.out]
            clear HBB
            go_wp2
            refine copy_ret rfl HHF.out ⟨_, _, _, _, _, _, rfl, ?_, HBF.out⟩
            have hall : ∀ (j : Nat) x, l[j]? = some x → j < q := fun j x hx => by have := (List.getElem?_eq_some_iff.1 hx).1; have := HL.out; omega
            have hkeep : ∀ b, (S b ∨ (g < b ∧ b < wr.heap.size)) → (put4 w7 b4 (.int .i64 k) (.int .i64 n) (.string bs) (.slice (some ⟨g, 0, none⟩) q q)).heap[b]? = wr.heap[b]? := fun b hb => by
              have hlt : b < wr.heap.size := by
                rcases hb with h | h
                · exact Nat.lt_of_lt_of_le (HSS.out b h) HR.out.below.size
                · exact h.2
              have hn2 : b ≠ b2 ∧ b ≠ b4 := by
                rcases hb with h | h
                · have := HSS.out b h; omega
                · have := h.1; omega
              exact (HPF.out.block b (Nat.lt_of_lt_of_le hlt HS2.out.size) hn2.2).trans (HS2.out.block b hlt hn2.1)
            have hVS := VS.mk (w := put4 w7 b4 (.int .i64 k) (.int .i64 n) (.string bs) (.slice (some ⟨g, 0, none⟩) q q)) (S := fun b => S b ∨ (w.heap.size ≤ b ∧ TB (put4 w7 b4 (.int .i64 k) (.int .i64 n) (.string bs) (.slice (some ⟨g, 0, none⟩) q q)) b)) k n s l (some ⟨g, 0, none⟩) q cw HK.out HN.out HBT.out ⟨by rw [← HL.out]; exact Nat.le_refl _, by omega⟩ (fun h => by cases h)
              (fun _ => ⟨g, 0, rfl, .inr ⟨hlg, _, _, HG8.out⟩⟩)
              (fun b o he i x hx t u hu => by
                cases he
                have hiq := hall i x hx
                obtain ⟨g1, g2, _⟩ := HR.out.at' i x hiq hx
                rw [cell_of_row _ _ _ _ _ _ HG8.out, Nat.zero_add]
                exact g2 t u hu)
              (fun i x hx => VS.weak (fun b hb => hb.imp id (fun h => ⟨by have := h.1; omega, h.2.to (hkeep b (.inr ⟨h.1, h.2.lt⟩))⟩)) (VS.of_blocks (fun b hb => hkeep b (hb.imp id (fun h => ⟨h.1, h.2.lt⟩))) (HR.out.at' i x (hall i x hx) hx).2.2))
            rw [← HL.out, ← HBS.out] at hVS
            exact hVS
end Go.Proofs.Ytplckmoeaeabgaa

namespace Go.Proofs.Ytplckmoeaeabgaa
open Go Go.ChangeShapes Go.WideShapes Go.ChangeAt Go.RowKit Go.Shelf
attribute [local go_sem] Oper.semAt_some

/-- The references among values. -/
def refL (l : List (Int × Mv)) : List Int := l.filterMap fun x => if x.2.k = 5 then some (x.2.n % 18446744073709551616) else none
theorem refL_app (l r : List (Int × Mv)) : refL (l ++ r) = refL l ++ refL r := by unfold refL; rw [List.filterMap_append]
theorem refL_le (l : List (Int × Mv)) : (refL l).length ≤ l.length := List.length_filterMap_le ..
theorem info64 : (Try.prog.info? 49).map (fun i => (i.zero, i.size, i.bytes)) = some (some (.int .u64 0), 1, 8) := by kernel_rfl
theorem kq_push {S : Nat → Prop} {W w1 : World} {n₀ B : Nat} {t e : TypeId} {size k : Nat} {v : Value} {xs : List Value} {tmp : Obj} (hv : Boxed W B t v) (ht : t ≠ 24) (he : e ≠ 24) (hrow : W.ownsRow n₀ e size v k xs)
    (hgrow : (W.alloc tmp).grownBy w1 v.ownBlock) (hB : ¬ S B) (hr : ∀ r, n₀ ≤ r → ¬ S r) (v' : Value) : KQ S W (w1.setCell ⟨B, 0, none⟩ v') := fun j cs u fr hS hj => by
  have hjl := (Array.getElem?_eq_some_iff.1 hj).1
  have hne : j ≠ B := fun e => by
    subst e
    rcases hS with hS | rfl
    · exact hB hS
    · rw [hv] at hj; cases hj; exact ht rfl
  have hnr : ¬ some j = v.ownBlock := fun h => by
    rcases hrow.2 with ⟨rfl, _⟩ | ⟨g, cap, cur, rfl, hg, hgb, _⟩
    · simp [Value.ownBlock] at h
    · have : j = g := by simpa [Value.ownBlock] using h
      subst this
      rcases hS with hS | rfl
      · exact hr j hg hS
      · rw [hgb] at hj; cases hj; exact he rfl
  rw [Below.heap_setCell _ _ _ _ hne, hgrow.block j (by simp; omega) hnr, Below.heap_alloc _ _ _ hjl]
  exact hj
/-- Between two rounds of Refs. -/
structure GI (w0 : World) (pre : List (Int × Mv)) (lv : Value) (W : World) : Prop where
  b1 : Boxed W (w0.heap.size + 1) 46 lv
  row : W.ownsRow w0.heap.size 49 1 lv (refL pre).length (ul (refL pre))
  below : Below w0.heap.size w0 W
theorem GI.kept {w0 : World} {pre : List (Int × Mv)} {lv : Value} {W W' : World} {row : Option Nat} (h : GI w0 pre lv W) (hg : W.grownBy W' row) (hr : ∀ r, row = some r → w0.heap.size ≤ r ∧ ∃ o : Obj, W.heap[r]? = some o ∧ o.isCells = false) : GI w0 pre lv W' :=
  have hr' := fun r e => (hr r e).2
  ⟨h.b1.kept hg (not_cells h.b1 hr'), owns_not_cells h.row hg hr', h.below.grown hg h.below.size (fun k e => (hr k e).1)⟩
def RefsPost (w : World) (l : List (Int × Mv)) (e : Ending) (w' : World) : Prop := ∃ lv, e = .returned lv ∧ w'.ownsRow w.heap.size 49 1 lv (refL l).length (ul (refL l)) ∧ Below w.heap.size w w'
set_option maxRecDepth 100000 in
set_option maxHeartbeats 4000000 in
theorem Refs_in (n : Nat) (hn : 3 ≤ n) (w : World) (v : Mv) (hM : MS w (fun k => k < w.heap.size) v) (hN : (walkM v 0).length ≤ 1048576) :
    CallsIn Fence.wide n Try.prog 24 #[.agg v.cells.toArray] w (RefsPost w (walkM v 0)) := by
  have h1 : 1 ≤ n := by omega
  obtain ⟨i0, hi, hz0, hz1, hz2⟩ := info_parts info64
  have hcells : v.cells = [.int .i64 v.k, .int .i64 v.n, .string (strI v.s), .slice v.a v.l.length v.c] := rfl
  have hB0 : ∀ o o' o'', Below w.heap.size w (((w.alloc o).alloc o').alloc o'') := fun o o' o'' => (((Below.refl _ w).alloc (Nat.le_refl _) _).alloc (by simp) _).alloc (by simp; omega) _
  have HB0 := hid hB0
  have hM3 := fun o o' o'' => hM.ks (ks_below (hB0 o o' o''))
  have hst := fun W (hW : W.heap[w.heap.size + 1 + 1]? = some (.cells v.cells.toArray 24 (0, 0))) (hMW : MS W (fun k => k < w.heap.size) v) => values_stops (n - 1) (w.heap.size + 1 + 1) (fun k => k < w.heap.size) v W hW hMW
  rw [hcells] at hst ⊢
  have HM3 := hid hM3
  have HST := hid hst
  have HNN := hid hN
  clear hM hB0 hM3 hst hN
  obtain ⟨vk, hvk⟩ : ∃ x, x = v.k := ⟨_, rfl⟩
  obtain ⟨vn, hvn⟩ : ∃ x, x = v.n := ⟨_, rfl⟩
  obtain ⟨vs, hvs⟩ : ∃ x, x = strI v.s := ⟨_, rfl⟩
  obtain ⟨va, hva⟩ : ∃ x, x = v.a := ⟨_, rfl⟩
  obtain ⟨vl, hvl⟩ : ∃ x, x = v.l.length := ⟨_, rfl⟩
  obtain ⟨vc, hvc⟩ : ∃ x, x = v.c := ⟨_, rfl⟩
  rw [← hvk, ← hvn, ← hvs, ← hva, ← hvl, ← hvc] at HST ⊢
  clear hvk hvn hvs hva hvl hvc hcells
  refine callsIn_of_wp_marks Try.func24 rfl trivial ?_ rfl
  simp only [Try.ntmps24, List.size_toArray, List.length_cons, List.length_nil, Nat.reduceAdd, Nat.reduceSub, Array.replicate_succ, Array.replicate_zero, List.push_toArray, List.append_toArray, List.nil_append, List.cons_append]
  gi_wp2_with fail
  first
    | refine (callsIn_wide.2 (values_any _ _ _ _ _)).mono ?_
    | refine ⟨trivial, (callsIn_wide.2 (values_any _ _ _ _ _)).mono ?_⟩
    | refine ⟨trivial, (fun h => by cases h), (callsIn_wide.2 (values_any _ _ _ _ _)).mono ?_⟩
  rintro e w' ⟨rfl, rfl⟩
  simp only [World.size_alloc]
  have b1 := (Boxed.new (w.alloc (.cells #[.int .i64 vk, .int .i64 vn, .string vs, .slice va vl vc] 24)) 46 (.slice none 0 0)).alloc (.cells #[.int .i64 vk, .int .i64 vn, .string vs, .slice va vl vc] 24)
  have b2 := heap_alloc_new ((w.alloc (.cells #[.int .i64 vk, .int .i64 vn, .string vs, .slice va vl vc] 24)).alloc (.cells #[.slice none 0 0] 46)) (.cells #[.int .i64 vk, .int .i64 vn, .string vs, .slice va vl vc] 24)
  simp only [World.size_alloc] at b1 b2
  have hb3 := HB0.out (.cells #[.int .i64 vk, .int .i64 vn, .string vs, .slice va vl vc] 24) (.cells #[.slice none 0 0] 46) (.cells #[.int .i64 vk, .int .i64 vn, .string vs, .slice va vl vc] 24)
  have hI0 : GI w [] (.slice none 0 0) _ := ⟨b1, World.ownsRow_nil _ _ _ _, hb3⟩
  have hst := HST.out _ b2 (HM3.out _ _ _)
  have hsz : w.heap.size + 1 + 1 < (((w.alloc (.cells #[.int .i64 vk, .int .i64 vn, .string vs, .slice va vl vc] 24)).alloc (.cells #[.slice none 0 0] 46)).alloc (.cells #[.int .i64 vk, .int .i64 vn, .string vs, .slice va vl vc] 24)).heap.size := by simp
  obtain ⟨w0, hw0⟩ : ∃ w0, w0 = (((w.alloc (.cells #[.int .i64 vk, .int .i64 vn, .string vs, .slice va vl vc] 24)).alloc (.cells #[.slice none 0 0] 46)).alloc (.cells #[.int .i64 vk, .int .i64 vn, .string vs, .slice va vl vc] 24)) := ⟨_, rfl⟩
  rw [← hw0] at hst hI0 hsz ⊢
  have HST2 := hid hst
  have HI := hid hI0
  clear hst hI0 hw0 b1 b2 hb3 HST HB0 HM3
  gi_wp2
  refine wpIn_rangeFunc_ownH rfl h1 (gf := 41) (lb := #[.pointer (some ⟨w.heap.size + 1 + 1, 0, none⟩)]) rfl trivial (enters_of Try.func41 (by kernel_rfl) rfl)
    HST2.out (fun h k => h.t k) (fun W l o o' _ h2 h3 _ => KQ.b _ W l o o' h2 h3) (Below.refl _ _) (fun _ => rfl)
    (fun pre W => ∃ lv, GI w (tolds pre) lv W) (fun c pre W => False)
    (fun _ _ _ _ ⟨lv, h⟩ hg hr => ⟨lv, h.kept hg (fun r e => ⟨by have := (hr r e).1; omega, (hr r e).2⟩)⟩) (fun _ _ _ _ _ h _ _ => h) ⟨_, HI.out⟩
    (fun x a' W => ∃ Bx, W.heap[Bx]? = some (.cells #[.int .i64 x.1.2.k, .int .i64 x.1.2.n, .string (strI x.1.2.s), .slice x.1.2.a x.1.2.l.length x.1.2.c] 24 (0, 0)) ∧ a' = { tmps := #[.agg #[.int .i64 vk, .int .i64 vn, .string vs, .slice va vl vc], .pointer (some ⟨w.heap.size, 0, none⟩), .slice none 0 0, .pointer (some ⟨w.heap.size + 1, 0, none⟩), undef, .pointer (some ⟨Bx, 0, none⟩), .agg #[.int .i64 vk, .int .i64 vn, .string vs, .slice va vl vc], .func (.func 41) #[] #[.pointer (some ⟨w.heap.size + 1 + 1, 0, none⟩)], .int .i64 x.1.1, .agg #[.int .i64 x.1.2.k, .int .i64 x.1.2.n, .string (strI x.1.2.s), .slice x.1.2.a x.1.2.l.length x.1.2.c], undef, undef, undef, undef, undef, undef, undef, undef, undef, undef], defers := [] })
    (fun x a' _ X Y row hs hg hr => by obtain ⟨Bx, e2, e3⟩ := hs; exact ⟨Bx, heap_kept e2 hg (not_cells e2 (fun r e => (hr r e).2)), e3⟩)
    ?assign ?body ?done ?stop
  case assign =>
    rintro lp pre x W K ⟨lv, hci⟩ hK
    dsimp only [yargs, Mv.cells]
    have HCI := hid hci
    have HKK := hid hK
    clear hci hK
    gi_wp2
    exact HKK.out _ _ ((KeepsOthers.alloc _ _).from _) ((KQ.refl _ W).alloc _) ⟨lv, HCI.out.kept (World.grownBy_alloc W _ none) (fun r e => by cases e)⟩ ⟨W.heap.size, heap_alloc_new _ _, rfl⟩
  case body =>
    rintro lp pre x a' W hl ⟨r, hr⟩ ⟨lv, H⟩ ⟨Bx, bX, rfl⟩ hlt
    have hcw : (tolds (pre ++ [x])) = tolds pre ++ [x.1] := by simp [tolds]
    have HCW := hid hcw
    have HH := hid H
    obtain ⟨c0, c1, c2, c3⟩ := cell4 bX
    have e1 := H.b1.cell
    have f1 := H.b1.frozen
    obtain ⟨la, lk, rfl⟩ := own_form H.row
    have hpl : (refL (tolds pre)).length ≤ 1048576 := by
      have h3 := refL_le (tolds pre)
      have h4 : (tolds pre).length = pre.length := List.length_map ..
      have := HNN.out
      omega
    clear H hcw bX hlt hl hr
    by_cases h5 : x.1.2.k = 5
    · have d5 : (x.1.2.k == 5) = true := by simpa using h5
      have HR5 := hid (show refL (tolds pre ++ [x.1]) = refL (tolds pre) ++ [x.1.2.n % 18446744073709551616] by rw [refL_app]; simp [refL, h5])
      have hw := wrap_u64_mod x.1.2.n
      have H := HH.out
      have hsz2 := H.below.size
      obtain ⟨z, hz⟩ : ∃ z, z = x.1.2.n % 18446744073709551616 := ⟨_, rfl⟩
      rw [← hz] at HR5 hw
      clear h5 hz
      gi_wp2_with (first
        | (gi_at_builtin; refine wpListIn_append_own _ rfl _ _ 46 rfl w.heap.size 49 i0 (.int .u64 0) 1 8 Try.underlying46 hi hz0 hz1 hz2 rfl (by decide) _ _ _ rfl (H.row.alloc _) ⟨W.heap.size, 0, none⟩ 1 1 [.int .u64 z] rfl rfl (cell_one_new _ _ _) (by simp [Value.oneCell']) (by simp only [maxLen]; omega) (by omega) (by simp; omega) ?_; intro v' w2 hown' hgrow _; obtain ⟨g', cap', rfl⟩ := ownsRow_succ hown'; obtain ⟨p1, p2, p3, p4, p5, p6, p7⟩ := box_push H.b1 (by decide) H.row hown' hgrow; have hc1 := p1.cell; have hf1 := p1.frozen; have hkq := kq_push (S := fun k => k < w.heap.size) H.b1 (by decide) (by decide) H.row hgrow (by simp) (fun r h => by omega) (.slice (some ⟨g', 0, none⟩) ((refL (tolds pre)).length + 1) cap')))
      refine ⟨p4.from _, hkq, _, p2, ?_, H.below.trans (p6 _ (by omega) (Nat.le_refl _) hsz2)⟩
      rw [HCW.out, HR5.out, List.length_append]
      have h9 := p3
      unfold ul at h9 ⊢
      rw [List.map_append]
      exact h9
    · have d5 : (x.1.2.k == 5) = false := by simpa using h5
      have HR5 := hid (show refL (tolds pre ++ [x.1]) = refL (tolds pre) by rw [refL_app]; simp [refL, h5])
      clear h5
      gi_wp2
      refine ⟨KeepsFrom.refl _ _, KQ.refl _ _, .slice la (refL (tolds pre)).length lk, ?_⟩
      have h9 := HH.out
      exact ⟨h9.b1, by rw [HCW.out, HR5.out]; exact h9.row, h9.below⟩
  case done =>
    rintro D ys W hD rfl ⟨lv, H⟩ hK
    have hfull : tolds (walkM v 0).attach = walkM v 0 := by unfold tolds; exact List.attach_map_subtype_val _
    have e1 := H.b1.cell
    have HH := hid H
    have HF := hid hfull
    clear H hfull
    gi_wp2
    refine ⟨by simp, .inl ⟨_, _, rfl, run_takeDeferred hK, ?_⟩⟩
    refine ⟨_, results_tmp rfl _ _ _, lv, rfl, ?_, HH.out.below.trans (belowK_b (w := w) (Nat.le_refl _) W D _ _ (by omega) hK rfl rfl)⟩
    have h := HH.out.row
    rw [HF.out] at h
    exact owns_not_cells h (grownBy_putObj' _ D (.deferred none)) (fun r e => by cases e; exact ⟨_, hK, rfl⟩)
  case stop =>
    rintro D c pre W hD hp h hK
    exact h.elim
end Go.Proofs.Ytplckmoeaeabgaa

namespace Go.Proofs.Ytplckmoeaeabgaa
open Go Go.RowKit

/-- An iterator's word: what it tells is as 'Mem' says when it is told. -/
def Tells {α : Type} (F : Fence) (n : Nat) (P : Program) (g : Nat) (lb : Array Value) (encs : α → Array Value) (Mem : α → World → Prop) (Kp : World → World → Prop) (S Sp : List α → Prop) (w : World) : Prop :=
  ∀ (l : Nat) (J Jx : List α → World → Prop) (W : World), Below w.heap.size w W → OwnFrom W.heap.size J → OwnFrom W.heap.size Jx →
    (∀ pre x W1, J pre W1 → Mem x W1 → YieldAt F (n - 1) P l (encs x) W1 fun e W' => (e = .returned (.bool true) ∧ J (pre ++ [x]) W' ∧ Kp W1 W' ∧ KeepsFrom W.heap.size W1 W') ∨ (e = .returned (.bool false) ∧ Jx (pre ++ [x]) W' ∧ KeepsFrom W.heap.size W1 W')) →
    J [] W → CallsIn F n P g (#[.func (.yield l) #[] #[]] ++ lb) W fun e W' => (∃ v, e = .returned v) ∧ ((∃ xs, S xs ∧ J xs W') ∨ (∃ pre, Sp pre ∧ Jx pre W'))
theorem kf_up {B B' : Nat} {W W' : World} (h : KeepsFrom B W W') (hB : B ≤ B') : KeepsFrom B' W W' := ⟨h.size, fun k o hk => h.same k o (Nat.le_trans hB hk)⟩
theorem kf_puts {B l : Nat} (W : World) (o : Obj) (hl : l < B) : KeepsFrom B W (W.putObj l o) := ⟨by simp, fun k o' hk ho _ => (World.putObj_heap_other (by omega)).trans ho⟩
variable {F : Fence} {n : Nat} {P : Program}
/-- The loop's record and its block for deferred calls, at these places. -/
structure Books (rec : LoopState → Option Code → Loop) (k : Nat) (st : LoopState) (pe : Option Code) (W : World) : Prop where
  loop : W.heap[k + 1]? = some (.loop (rec st pe))
  defs : W.heap[k]? = some (.deferred (some []))
theorem Books.lt {rec : LoopState → Option Code → Loop} {k : Nat} {st : LoopState} {pe : Option Code} {W : World} (h : Books rec k st pe W) : k + 1 < W.heap.size := (Array.getElem?_eq_some_iff.1 h.loop).1
theorem Books.keep {rec : LoopState → Option Code → Loop} {k : Nat} {st : LoopState} {pe : Option Code} {W W' : World} (h : Books rec k st pe W) (hk : KeepsFrom k W W') : Books rec k st pe W' := ⟨hk.same _ _ (by omega) h.loop rfl, hk.same _ _ (Nat.le_refl _) h.defs rfl⟩
theorem Books.put {rec : LoopState → Option Code → Loop} {k : Nat} {st st' : LoopState} {pe pe' : Option Code} {W : World} (h : Books rec k st pe W) : Books rec k st' pe' (W.putObj (k + 1) (.loop (rec st' pe'))) := ⟨World.putObj_heap_same h.lt, (World.putObj_heap_other (by omega)).trans h.defs⟩
theorem Books.walk {rec : LoopState → Option Code → Loop} {k : Nat} {st : LoopState} {pe : Option Code} {W W' : World} {row : Option Nat} (h : Books rec k st pe W) (hg : W.grownBy W' row) (hr : ∀ r, row = some r → ∃ o : Obj, W.heap[r]? = some o ∧ o.isWalk = true) : Books rec k st pe W' :=
  ⟨(grownBy_keeps hg hr h.loop rfl).trans h.loop, (grownBy_keeps hg hr h.defs rfl).trans h.defs⟩
set_option maxHeartbeats 2000000 in
theorem rangeFunc_mem {α : Type} {g : Operand} {ps : Array Tmp} {assign body : Code} {Q : Exit → Act → World → Prop} {a : Act} {w : World} (hro : F.round = none) (h1 : 1 ≤ n) {gf : Nat} {lb : Array Value} (hg : a.eval g = .func (.func gf) #[] lb) (hFg : F.fn gf)
    (eg : ∀ args w, (callFunc gf args).run P w = .ok (.enter gf args) w) {encs : α → Array Value} {Mem : α → World → Prop} {Kp : World → World → Prop} {S Sp : List α → Prop} (hseq : Tells F (n - 1) P gf lb encs Mem Kp S Sp w)
    (hKt : ∀ {A B C : World}, Kp A B → Kp B C → Kp A C) (hKb : ∀ (W : World) (l : Nat) (o o' : Obj), w.heap.size ≤ l → W.heap[l]? = some o → o.isCells = false → o.isWalk = false → Kp W (W.putObj l o')) (hps : ∀ x, (encs x).size = ps.size)
    (I : List α → World → Prop) (Ix : Code → List α → World → Prop) (hI : OwnFrom w.heap.size I) (hIx : ∀ c, OwnFrom w.heap.size (Ix c)) (h0 : I [] w) (Ax : List α → α → Act → World → Prop) (hAx : ∀ pre x a', OwnFrom w.heap.size (fun (_ : Unit) W => Ax pre x a' W))
    (hassign : ∀ (l : Nat) (pre : List α) (x : α) (W : World) (K : Act → World → Prop), I pre W → Mem x W → (∀ a' W', KeepsFrom w.heap.size W W' → Kp W W' → Ax pre x a' W' → K a' W') →
      assign.wpIn (F.inRound l) (n - 1 - 1) P (Exit.then K (fun _ _ _ => False)) { tmps := (ps.zip (encs x)).foldl (fun t (p, v) => t.setIfInBounds p v) a.tmps, defers := [] } W)
    (hbody : ∀ (l : Nat) (pre : List α) (x : α) (a' : Act) (W : World), w.heap.size ≤ l → (∃ r, W.heap[l]? = some (.loop r)) → Ax pre x a' W → body.wpIn (F.inRound l) (n - 1 - 1) P (ownPostG w.heap.size Kp I Ix (pre ++ [x]) W) a' W)
    (hdone : ∀ (D : Nat) (xs : List α) (W : World), w.heap.size ≤ D → S xs → I xs W → W.heap[D]? = some (.deferred (some [])) → Q .normal { a with defers := { target := .collected D, args := #[] } :: a.defers } W)
    (hstop : ∀ (D : Nat) (c : Code) (pre : List α) (W : World), w.heap.size ≤ D → Sp pre → Ix c pre W → W.heap[D]? = some (.deferred (some [])) → c.wpIn F n P Q { a with defers := { target := .collected D, args := #[] } :: a.defers } W) :
    (Code.rangeFunc g ps assign body).wpIn F n P Q a w := by
  refine wpIn_rangeFunc fun fn hfn => ?_
  rw [hro]
  obtain ⟨rec, hrec⟩ : ∃ rec : LoopState → Option Code → Loop, rec = fun st pe => { state := st, pending := pe, fn, tmps := a.tmps, params := ps, assign, body, defers := w.heap.size } := ⟨_, rfl⟩
  have hbk : Books rec w.heap.size .ready none ((w.alloc (.deferred (some []))).alloc (.loop (rec .ready none))) := by
    refine ⟨?_, (Below.heap_alloc _ _ _ (by simp)).trans (World.alloc_heap_new w _)⟩
    have h := World.alloc_heap_new (w.alloc (.deferred (some []))) (.loop (rec .ready none))
    rwa [World.size_alloc] at h
  have hbw : Below w.heap.size w ((w.alloc (.deferred (some []))).alloc (.loop (rec .ready none))) := ((Below.refl _ w).alloc (Nat.le_refl _) _).alloc (by simp) _
  have hI1 : I [] ((w.alloc (.deferred (some []))).alloc (.loop (rec .ready none))) := hI.alloc _ (hI.alloc _ h0)
  have hen := run_enterLoop_outer (P := P) (w := w) fn a.tmps ps assign body
  rw [show ({ state := .ready, pending := none, fn, tmps := a.tmps, params := ps, assign, body, defers := w.heap.size } : Loop) = rec .ready none by rw [hrec]] at hen
  obtain ⟨W1, hW1⟩ : ∃ W1, W1 = (w.alloc (.deferred (some []))).alloc (.loop (rec .ready none)) := ⟨_, rfl⟩
  rw [← hW1] at hbk hbw hI1 hen
  have hsz : w.heap.size ≤ W1.heap.size := hbw.size
  have hsz2 : W1.heap.size = w.heap.size + 2 := by rw [hW1]; simp
  -- one round
  have round : ∀ pre x W, (I pre W ∧ Books rec w.heap.size .ready none W) → Mem x W → YieldAt F (n - 1 - 1) P (w.heap.size + 1) (encs x) W fun e W' =>
      (e = .returned (.bool true) ∧ (I (pre ++ [x]) W' ∧ Books rec w.heap.size .ready none W') ∧ Kp W W' ∧ KeepsFrom W1.heap.size W W') ∨ (e = .returned (.bool false) ∧ (∃ c, Ix c (pre ++ [x]) W' ∧ Books rec w.heap.size .done (some c) W') ∧ KeepsFrom W1.heap.size W W') := by
    rintro pre x W ⟨hi, hb⟩ hm
    have hy := run_yield (P := P) (args := encs x) hb.loop (by rw [hrec]; exact hps x)
    rw [hrec] at hy
    refine ⟨fn, _, assign, body, hy, roundIn_of_wpIn hfn (hassign _ pre x W _ hi hm fun a' Wa hk hkp hax => ?_)⟩
    have hba := hb.keep hk
    refine ⟨_, run_beginRound hba.loop (by rw [hrec]), ?_⟩
    have hbb : Books rec w.heap.size .busy none (Wa.putObj (w.heap.size + 1) (.loop (rec .busy none))) := hba.put
    have hkb : Kp Wa (Wa.putObj (w.heap.size + 1) (.loop (rec .busy none))) := hKb _ _ _ _ (by omega) hba.loop rfl rfl
    have hab := (hAx pre x a').putObj (s := ()) (.loop (rec .busy none)) hax (by omega) hba.loop rfl
    have hr : ({ rec .ready none with state := .busy } : Loop) = rec .busy none := by rw [hrec]
    rw [hr]
    refine wpIn_mono (hbody _ pre x a' _ (by omega) ⟨_, hbb.loop⟩ hab) ?_
    have kept : ∀ (W3 : World) (o : Obj), KeepsFrom w.heap.size (Wa.putObj (w.heap.size + 1) (.loop (rec .busy none))) W3 → KeepsFrom W1.heap.size W (W3.putObj (w.heap.size + 1) o) := fun W3 o hk3 =>
      (((kf_up hk hsz).trans (kf_puts Wa _ (by omega))).trans (kf_up hk3 hsz)).trans (kf_puts W3 o (by omega))
    have left : ∀ (c : Code) (W3 : World), KeepsFrom w.heap.size (Wa.putObj (w.heap.size + 1) (.loop (rec .busy none))) W3 → Ix c (pre ++ [x]) W3 → ∃ v W4, (Instr.endRound (w.heap.size + 1) (some c)).run P W3 = .ok v W4 ∧
        ((Ending.returned v = .returned (.bool true) ∧ (I (pre ++ [x]) W4 ∧ Books rec w.heap.size .ready none W4) ∧ Kp W W4 ∧ KeepsFrom W1.heap.size W W4) ∨ (Ending.returned v = .returned (.bool false) ∧ (∃ c, Ix c (pre ++ [x]) W4 ∧ Books rec w.heap.size .done (some c) W4) ∧ KeepsFrom W1.heap.size W W4)) := fun c W3 hk3 hi3 => by
      have hb3 := hbb.keep hk3
      have he := run_endRound (P := P) (some c) hb3.loop
      have hr2 : ({ rec .busy none with state := if (some c).isNone then .ready else .done, pending := some c } : Loop) = rec .done (some c) := by rw [hrec]; rfl
      refine ⟨_, _, he, .inr ⟨by simp, ⟨c, ?_, ?_⟩, kept W3 _ hk3⟩⟩
      · exact (hIx c).putObj _ hi3 (by omega) hb3.loop rfl
      · have := hb3.put (st' := .done) (pe' := some c)
        rw [← hr2] at this; exact this
    rintro e a3 W3 hp
    cases e with
    | normal =>
      obtain ⟨hk3, hkp3, hi3⟩ := hp
      have hb3 := hbb.keep hk3
      have he := run_endRound (P := P) none hb3.loop
      have hr2 : ({ rec .busy none with state := if (none : Option Code).isNone then .ready else .done, pending := none } : Loop) = rec .ready none := by rw [hrec]; rfl
      refine ⟨_, _, he, .inl ⟨by simp, ⟨hI.putObj _ hi3 (by omega) hb3.loop rfl, ?_⟩, hKt hkp (hKt hkb (hKt hkp3 (hKb _ _ _ _ (by omega) hb3.loop rfl rfl))), kept W3 _ hk3⟩⟩
      have := hb3.put (st' := .ready) (pe' := none)
      rw [← hr2] at this; exact this
    | ret => exact left .ret W3 hp.1 hp.2
    | exit id => exact left (.exit id) W3 hp.1 hp.2
    | goto t => exact left (.goto t) W3 hp.1 hp.2
    | panic ch => exact hp.elim
    | outgrown => exact hp.elim
  have bk : ∀ {st : LoopState} {pe : Option Code} {A B : World} {row : Option Nat}, Books rec w.heap.size st pe A → A.grownBy B row → (∀ r, row = some r → W1.heap.size ≤ r ∧ ∃ o : Obj, A.heap[r]? = some o ∧ o.isCells = false) → Books rec w.heap.size st pe B := fun h3 hg hr =>
    ⟨(hg.block _ h3.lt (fun e => by have := (hr _ e.symm).1; omega)).trans h3.loop, (hg.block _ (by have := h3.lt; omega) (fun e => by have := (hr _ e.symm).1; omega)).trans h3.defs⟩
  have call := hseq (w.heap.size + 1) (fun pre W => I pre W ∧ Books rec w.heap.size .ready none W) (fun pre W => ∃ c, Ix c pre W ∧ Books rec w.heap.size .done (some c) W) W1 hbw
    (fun s A B row ⟨h2, h3⟩ hg hr => ⟨hI s A B row h2 hg (fun r e => ⟨Nat.le_trans hsz (hr r e).1, (hr r e).2⟩), bk h3 hg hr⟩)
    (fun s A B row ⟨c, h2, h3⟩ hg hr => ⟨c, hIx c s A B row h2 hg (fun r e => ⟨Nat.le_trans hsz (hr r e).1, (hr r e).2⟩), bk h3 hg hr⟩) round ⟨hI1, hbk⟩
  refine ⟨w.heap.size + 1, [{ target := .collected w.heap.size, args := #[] }], W1, { target := .fn (.func gf) lb, args := #[.func (.yield (w.heap.size + 1)) #[] #[]] }, W1, gf, #[.func (.yield (w.heap.size + 1)) #[] #[]] ++ lb, W1, ?_, ?_, ?_, ?_, fun _ => h1, ?_⟩
  · exact hen
  · simp only [resolve, hg]
    simp [go_sem]
  · intro f' hf'
    simp [Target.leads] at hf'
    subst hf'
    exact hFg
  · simp [invoke, go_sem, eg]
  · refine call.mono ?_
    rintro e W2 ⟨⟨v, rfl⟩, (⟨xs, hS, hi, hb⟩ | ⟨pre, hSp, c, hi, hb⟩)⟩
    · have he := run_endLoop (P := P) hb.loop (by rw [hrec]; simp)
      rw [show (rec .ready none).pending = none by rw [hrec]] at he
      exact ⟨none, _, he, hdone _ xs _ (Nat.le_refl _) hS (hI.putObj _ hi (by omega) hb.loop rfl) ((World.putObj_heap_other (by omega)).trans hb.defs)⟩
    · have he := run_endLoop (P := P) hb.loop (by rw [hrec]; simp)
      rw [show (rec .done (some c)).pending = some c by rw [hrec]] at he
      exact ⟨some c, _, he, hstop _ c pre _ (Nat.le_refl _) hSp ((hIx c).putObj _ hi (by omega) hb.loop rfl) ((World.putObj_heap_other (by omega)).trans hb.defs)⟩
end Go.Proofs.Ytplckmoeaeabgaa

namespace Go.Proofs.Ytplckmoeaeabgaa
open Go Go.ChangeShapes Go.WideShapes Go.ChangeAt Go.RowKit Go.Shelf
attribute [local go_sem] Oper.semAt_some

/-- A value and how deep it is, without places. -/
def vrp (x : Int × Mv) : Int × Vr := (x.1, x.2.vr)
/-- Below B, or of the values' type. -/
def LB (B : Nat) (w : World) (b : Nat) : Prop := b < B ∨ TB w b
/-- .. and the boxes that hold what is called stay, too. -/
def KY (B : Nat) (W W' : World) : Prop := KQ (fun b => b < B) W W' ∧ ∀ (k : Nat) (cs : Array Value) (fr : Nat × Nat), W.heap[k]? = some (.cells cs 71 fr) → W'.heap[k]? = some (.cells cs 71 fr)
theorem KY.t {B : Nat} {X Y Z : World} (h : KY B X Y) (k : KY B Y Z) : KY B X Z := ⟨h.1.t k.1, fun j cs fr hj => k.2 j cs fr (h.2 j cs fr hj)⟩
theorem KY.b (B : Nat) (W : World) (l : Nat) (o o' : Obj) (h : W.heap[l]? = some o) (hc : o.isCells = false) : KY B W (W.putObj l o') := ⟨KQ.b _ W l o o' h hc, fun k cs fr hk => by
  have hne : k ≠ l := fun e => by subst e; rw [hk] at h; cases h; cases hc
  rw [World.putObj_heap_other hne]; exact hk⟩
theorem KQ.grown {S : Nat → Prop} {A W W' : World} {row : Option Nat} (h : KQ S A W) (hg : W.grownBy W' row) (hr : ∀ r, row = some r → ∃ o : Obj, W.heap[r]? = some o ∧ o.isCells = false) : KQ S A W' := fun k cs t fr hS hk => by
  have h1 := h k cs t fr hS hk
  exact heap_kept h1 hg (not_cells h1 hr)
theorem LB.ks {B : Nat} {w W : World} (h : KQ (fun b => b < B) w W) : KS (LB B w) w W := fun k cs t fr hS hk => by
  rcases hS with hS | ⟨cs', fr', hk'⟩
  · exact h k cs t fr (.inl hS) hk
  · rw [hk] at hk'; cases hk'
    exact h k cs _ fr (.inr rfl) hk
theorem LB.kq {B : Nat} {w W W' : World} (h : KQ (fun b => b < B) w W) (h2 : KQ (fun b => b < B) W W') : KQ (LB B w) W W' := fun k cs t fr hS hk => by
  rcases hS with (hS | ⟨cs', fr', hk'⟩) | rfl
  · exact h2 k cs t fr (.inl hS) hk
  · have h3 := h k cs' _ fr' (.inr rfl) hk'
    rw [hk] at h3; cases h3
    exact h2 k cs _ fr (.inr rfl) hk
  · exact h2 k cs _ fr (.inr rfl) hk
theorem TB.kq {S : Nat → Prop} {w W : World} {b : Nat} (h : TB w b) (hk : KQ S w W) : TB W b := by
  obtain ⟨cs, fr, h⟩ := h
  exact ⟨cs, fr, hk b cs _ fr (.inr rfl) h⟩
def WalkerT (w : World) (B : Nat) (v : Vr) (e : Ending) (w' : World) : Prop :=
  ∃ (A : Nat) (m : Mv), e = .returned (.func (.func 52) #[] #[.pointer (some ⟨A, 0, none⟩)]) ∧ m.vr = v ∧ w.heap.size ≤ A ∧ w'.heap[A]? = some (.cells m.cells.toArray 24 (0, 0)) ∧
    MS w' (LB B w') m ∧ Below w.heap.size w w'
set_option maxHeartbeats 1000000 in
set_option maxRecDepth 100000 in
theorem Walk_typed (w : World) (B : Nat) (v : Vr) (cs : List Value) (h : VS w (fun b => b < B) v cs) (hB : B ≤ w.heap.size) (hN : cntV v ≤ 1048576) : Calls Try.prog 39 #[.agg cs.toArray] w (WalkerT w B v) := by
  obtain ⟨a, c, rfl, _⟩ := VIn.open h
  have hb1 : Below w.heap.size w (w.alloc (.cells #[.int .i64 v.k, .int .i64 v.n, .string (strI v.s), .slice a v.l.length c] 24)) := (Below.refl _ _).alloc (Nat.le_refl _) _
  have HC := hid (copied_typed v 9223372036854775807 _ _ (fun b => b < B) hN (by decide) (by decide) (fun b hb => Nat.lt_of_lt_of_le hb (Nat.le_trans hB hb1.size)) (VIn.kept h (hb1.mono hB)))
  have HB1 := hid hb1
  clear h hb1
  generalize v.k = k at *
  generalize v.n = n at *
  generalize strI v.s = s at *
  generalize v.l.length = L at *
  go_enter Try.func39, Try.ntmps39
  go_wp2_with fail
  refine HC.out.mono ?_
  rintro e w2 ⟨ck, cn, cb, ca, cl, cc, rfl, hx2, hb2⟩
  have hbb := HB1.out.trans (hb2.mono HB1.out.size)
  have hs1 := HB1.out.size
  have hs2 := hb2.size
  obtain ⟨m, hmv, hmc, hms⟩ := VS.tree hx2
  have hbw := (Below.refl w2.heap.size w2).alloc (Nat.le_refl _) (.cells #[.int .i64 ck, .int .i64 cn, .string cb, .slice ca cl cc] 24)
  have hm3 : MS (w2.alloc (.cells #[.int .i64 ck, .int .i64 cn, .string cb, .slice ca cl cc] 24)) (LB B (w2.alloc (.cells #[.int .i64 ck, .int .i64 cn, .string cb, .slice ca cl cc] 24))) m :=
    (hms.ks (KS.alloc (KS.refl _ _) _)).weak (fun b hb => hb.imp id (fun h => h.2.to (hbw.block b h.2.lt)))
  have HM3 := hid hm3
  have HB3 := hid (hbb.alloc hbb.size (.cells #[.int .i64 ck, .int .i64 cn, .string cb, .slice ca cl cc] 24))
  have HH3 := hid (heap_alloc_new w2 (.cells #[.int .i64 ck, .int .i64 cn, .string cb, .slice ca cl cc] 24))
  have HLO := hid (Nat.le_trans hs1 hs2)
  have HMV := hid hmv
  have HMC := hid hmc
  clear hx2 hb2 hbb hs1 hs2 hms hm3 hbw hmv hmc
  go_wp2
  go_ret
  exact ⟨w2.heap.size, m, rfl, HMV.out, HLO.out, by rw [HMC.out]; exact HH3.out, HM3.out, HB3.out⟩
theorem walk_le {v : Mv} : ∀ {d : Int} {x : Int × Mv}, x ∈ walkM v d → cntV x.2.vr ≤ cntV v.vr := by
  induction v using Mv.ind with
  | h k m s a c l ih =>
    intro d x hx
    rw [walkM_mk] at hx
    rcases List.mem_cons.1 hx with rfl | hx
    · exact Nat.le_refl _
    · obtain ⟨y, hy, hx⟩ := List.mem_flatMap.1 hx
      have h1 := ih y hy hx
      have h2 := cnt_part (l := l.map Mv.vr) (x := y.vr) (List.mem_map.2 ⟨y, hy, rfl⟩)
      rw [Mv.vr_mk, cntV_mk]
      omega
theorem lt_cell {W : World} {p : Addr} {v : Value} (h : W.cell? p = some v) : p.block < W.heap.size := World.block_lt_of_cell? W _ h
theorem roundIn_wide {n m : Nat} {P : Program} {l : Nat} {f : FuncId} {tmps : Array Value} {assign body : Code} {w : World} {R : Ending → World → Prop} (h : RoundIn Fence.wide n P l f tmps assign body w R) : RoundIn Fence.wide m P l f tmps assign body w R :=
  ⟨h.1, fun c cs _ => h.2 c cs (room_wide _)⟩
theorem grown_below {W W' : World} (h : Below W.heap.size W W') : W.grownBy W' none := ⟨h.os, h.tape, h.output, h.size, fun k hk _ => h.block k hk⟩
theorem kf_below {W W' : World} (B : Nat) (h : Below W.heap.size W W') : KeepsFrom B W W' := ⟨h.size, fun k o _ hk _ => by rw [h.block k (Array.getElem?_eq_some_iff.1 hk).1]; exact hk⟩
/-- Between two rounds of the iterator. -/
structure WI (B Y : Nat) (lp : Nat) (w0 : World) (J : List (Int × Mv) → World → Prop) (pre : List (Int × Mv)) (pre' : List (Int × Mv)) (W : World) : Prop where
  eq : pre'.map vrp = pre.map vrp
  j : J pre' W
  y : W.heap[Y]? = some (.cells #[.func (.yield lp) #[] #[]] 71 (0, 0))
  q : KQ (fun b => b < B) w0 W
theorem WI.kept {B Y lp : Nat} {w0 : World} {J : List (Int × Mv) → World → Prop} {pre pre' : List (Int × Mv)} {B2 : Nat} (hJ : OwnFrom B2 J) {W W' : World} {row : Option Nat} (h : WI B Y lp w0 J pre pre' W) (hg : W.grownBy W' row) (hr : ∀ r, row = some r → B2 ≤ r ∧ ∃ o : Obj, W.heap[r]? = some o ∧ o.isCells = false) : WI B Y lp w0 J pre pre' W' :=
  ⟨h.eq, hJ _ _ _ _ h.j hg hr, heap_kept h.y hg (not_cells h.y (fun r e => (hr r e).2)), h.q.grown hg (fun r e => (hr r e).2)⟩
set_option maxRecDepth 100000 in
set_option maxHeartbeats 4000000 in
theorem walker_tells (n A B : Nat) (hn : 3 ≤ n) (v : Mv) (w : World) (hB : B ≤ w.heap.size) (hA : w.heap[A]? = some (.cells v.cells.toArray 24 (0, 0))) (hM : MS w (LB B w) v) (hN : cntV v.vr ≤ 1048576) :
    Tells Fence.wide n Try.prog 52 #[.pointer (some ⟨A, 0, none⟩)] (fun x : Int × Mv => yargs x) (fun x W => MS W (LB B W) x.2) (KY B) (fun xs => xs.map vrp = (walkM v 0).map vrp) (fun pre => pre.map vrp <+: (walkM v 0).map vrp) w := fun lp J Jx W hW hAJ hAJx hY h0 => by
  have h1 : 1 ≤ n := by omega
  have hcells : v.cells = [.int .i64 v.k, .int .i64 v.n, .string (strI v.s), .slice v.a v.l.length v.c] := rfl
  have hcx : ∀ x ∈ walkM v 0, cntV x.2.vr ≤ 1048576 := fun x hx => Nat.le_trans (walk_le hx) hN
  have hAW := (hW.block A (lt_of_heap hA)).trans hA
  obtain ⟨w0, hw0⟩ : ∃ w0, w0 = (W.alloc (.cells #[.func (.yield lp) #[] #[]] 71)).alloc (.cells v.cells.toArray 24) := ⟨_, rfl⟩
  have hb0 : Below W.heap.size W w0 := by rw [hw0]; exact ((Below.refl _ _).alloc (Nat.le_refl _) _).alloc (by simp) _
  have hy0 : w0.heap[W.heap.size]? = some (.cells #[.func (.yield lp) #[] #[]] 71 (0, 0)) := by rw [hw0]; exact heap_alloc2_old _ _ _
  have hv0 : w0.heap[W.heap.size + 1]? = some (.cells v.cells.toArray 24 (0, 0)) := by rw [hw0]; exact heap_alloc2_new _ _ _
  have hsz0 : w0.heap.size = W.heap.size + 2 := by rw [hw0]; simp
  have hbw0 : Below w.heap.size w w0 := hW.trans (hb0.mono hW.size)
  have hM0 : MS w0 (LB B w0) v := (hM.ks (KQ.ks (KQ.below (S := LB B w) hbw0))).weak (fun b hb => hb.imp id (fun h => h.to (hbw0.block b h.lt)))
  have hst := values_stops (n - 1) (W.heap.size + 1) (LB B w0) v w0 hv0 hM0
  have hI0 : WI B W.heap.size lp w0 J [] [] w0 := ⟨rfl, hAJ _ _ _ _ h0 (grown_below hb0) (fun r e => by cases e), hy0, KQ.refl _ _⟩
  rw [hcells] at hAW hw0
  have hAY : (W.alloc (.cells #[.func (.yield lp) #[] #[]] 71)).heap[A]? = some (.cells #[.int .i64 v.k, .int .i64 v.n, .string (strI v.s), .slice v.a v.l.length v.c] 24 (0, 0)) := (heap_alloc_old _ _ (lt_of_heap hAW)).trans hAW
  obtain ⟨a0, a1, a2, a3⟩ := cell4 hAY
  have HST := hid hst
  have HI := hid hI0
  have HM0 := hid hM0
  have HCX := hid hcx
  have HY := hid hY
  have HAJ := hid hAJ
  have HAJX := hid hAJx
  have HW0 := hid hw0
  have HB0 := hid hb0
  have HBB := hid (show B ≤ W.heap.size from Nat.le_trans hB hW.size)
  clear hst hI0 hM0 hcx hY hAJ hAJx hw0 hb0 hy0 hv0 hbw0 hW hA hM hN hAW hAY h0 hcells hB
  obtain ⟨vk, hvk⟩ : ∃ x, x = v.k := ⟨_, rfl⟩
  obtain ⟨vn, hvn⟩ : ∃ x, x = v.n := ⟨_, rfl⟩
  obtain ⟨vs, hvs⟩ : ∃ x, x = strI v.s := ⟨_, rfl⟩
  obtain ⟨va, hva⟩ : ∃ x, x = v.a := ⟨_, rfl⟩
  obtain ⟨vl, hvl⟩ : ∃ x, x = v.l.length := ⟨_, rfl⟩
  obtain ⟨vc, hvc⟩ : ∃ x, x = v.c := ⟨_, rfl⟩
  rw [← hvk, ← hvn, ← hvs, ← hva, ← hvl, ← hvc] at HW0
  rw [← hvk] at a0
  rw [← hvn] at a1
  rw [← hvs] at a2
  rw [← hva, ← hvl, ← hvc] at a3
  clear hvk hvn hvs hva hvl hvc
  refine callsIn_of_wp_marks Try.func52 rfl trivial ?_ rfl
  simp only [Try.ntmps52, List.size_toArray, List.length_cons, List.length_nil, Nat.reduceAdd, Nat.reduceSub, Array.replicate_succ, Array.replicate_zero, List.push_toArray, List.append_toArray, List.nil_append, List.cons_append]
  gi_wp2_with fail
  first
    | refine (callsIn_wide.2 (values_any _ _ _ _ _)).mono ?_
    | refine ⟨trivial, (callsIn_wide.2 (values_any _ _ _ _ _)).mono ?_⟩
    | refine ⟨trivial, (fun h => by cases h), (callsIn_wide.2 (values_any _ _ _ _ _)).mono ?_⟩
  rintro e w' ⟨rfl, rfl⟩
  simp only [World.size_alloc]
  rw [← HW0.out]
  gi_wp2
  refine wpIn_rangeFunc_ownH rfl h1 (gf := 41) (lb := #[.pointer (some ⟨W.heap.size + 1, 0, none⟩)]) rfl trivial (enters_of Try.func41 (by kernel_rfl) rfl)
    HST.out (fun h k => h.t k) (fun W l o o' _ h2 h3 _ => KQ.b _ W l o o' h2 h3) (Below.refl _ _) (fun _ => rfl)
    (fun pre Wc => ∃ pre', WI B W.heap.size lp w0 J (tolds pre) pre' Wc) (fun c pre Wc => c = .ret ∧ ∃ pre', pre'.map vrp = (tolds pre).map vrp ∧ Jx pre' Wc)
    (fun _ _ _ _ ⟨pre', h⟩ hg hr => ⟨pre', h.kept HAJ.out hg (fun r e => ⟨by have := (hr r e).1; omega, (hr r e).2⟩)⟩) (fun _ _ _ _ _ ⟨hc, pre', h1, h2⟩ hg hr => ⟨hc, pre', h1, HAJX.out _ _ _ _ h2 hg (fun r e => ⟨by have := (hr r e).1; omega, (hr r e).2⟩)⟩) ⟨[], HI.out⟩
    (fun x a' Wc => ∃ Bx, Wc.heap[Bx]? = some (.cells #[.int .i64 x.1.2.k, .int .i64 x.1.2.n, .string (strI x.1.2.s), .slice x.1.2.a x.1.2.l.length x.1.2.c] 24 (0, 0)) ∧ a' = { tmps := #[.func (.yield lp) #[] #[], .pointer (some ⟨A, 0, none⟩), .pointer (some ⟨W.heap.size, 0, none⟩), .int .i64 x.1.1, .pointer (some ⟨Bx, 0, none⟩), .agg #[.int .i64 vk, .int .i64 vn, .string vs, .slice va vl vc], .func (.func 41) #[] #[.pointer (some ⟨W.heap.size + 1, 0, none⟩)], .int .i64 x.1.1, .agg #[.int .i64 x.1.2.k, .int .i64 x.1.2.n, .string (strI x.1.2.s), .slice x.1.2.a x.1.2.l.length x.1.2.c], undef, undef, undef, undef, undef, undef], defers := [] })
    (fun x a' _ X Y row hs hg hr => by obtain ⟨Bx, e2, e3⟩ := hs; exact ⟨Bx, heap_kept e2 hg (not_cells e2 (fun r e => (hr r e).2)), e3⟩)
    ?assign ?body ?done ?stop
  case assign =>
    rintro lo pre x Wc K ⟨pre', hci⟩ hK
    dsimp only [yargs, Mv.cells]
    have HCI := hid hci
    have HKK := hid hK
    clear hci hK
    gi_wp2
    exact HKK.out _ _ ((KeepsOthers.alloc _ _).from _) ((KQ.refl _ Wc).alloc _) ⟨pre', HCI.out.kept HAJ.out (World.grownBy_alloc Wc _ none) (fun r e => by cases e)⟩ ⟨Wc.heap.size, heap_alloc_new _ _, rfl⟩
  case body =>
    rintro lo pre x a' Wc hl ⟨r, hr⟩ ⟨pre', H⟩ ⟨Bx, bX, rfl⟩ hlt
    have hcw : (tolds (pre ++ [x])).map vrp = (tolds pre).map vrp ++ [vrp x.1] := by simp [tolds]
    have HCW := hid hcw
    obtain ⟨c0, c1, c2, c3⟩ := cell4 bX
    have y0 : Wc.cell? ⟨W.heap.size, 0, none⟩ = some (.func (.yield lp) #[] #[]) := by rw [cell_of_row Wc W.heap.size 0 _ _ _ H.y]; rfl
    have hxM : MS Wc (LB B w0) x.1.2 := (HM0.out.walk x.2).ks (LB.ks H.q)
    have hxv := hxM.vs
    have hlb : ∀ b, LB B w0 b → b < Wc.heap.size := fun b hb => by
      rcases hb with hb | hb
      · have := HBB.out; have := H.q; have h2 := lt_of_heap H.y; omega
      · exact (hb.kq H.q).lt
    have HCP := hid (copied_typed x.1.2.vr 256 x.1.2.cells Wc.drew (LB B w0) (HCX.out x.1 x.2) (by decide) (by decide) hlb (VS.of_blocks (w := Wc) (w' := Wc.drew) (fun _ _ => rfl) hxv))
    have HH := hid H
    have HLB := hid hlb
    clear H bX hlt hl hr hcw hxM hxv hlb
    dsimp only [Mv.cells] at HCP
    obtain ⟨xd, hxd⟩ : ∃ z, z = x.1.1 := ⟨_, rfl⟩
    obtain ⟨xk, hxk⟩ : ∃ z, z = x.1.2.k := ⟨_, rfl⟩
    obtain ⟨xn, hxn⟩ : ∃ z, z = x.1.2.n := ⟨_, rfl⟩
    obtain ⟨xs, hxs⟩ : ∃ z, z = strI x.1.2.s := ⟨_, rfl⟩
    obtain ⟨xa, hxa⟩ : ∃ z, z = x.1.2.a := ⟨_, rfl⟩
    obtain ⟨xl, hxl⟩ : ∃ z, z = x.1.2.l.length := ⟨_, rfl⟩
    obtain ⟨xc, hxc⟩ : ∃ z, z = x.1.2.c := ⟨_, rfl⟩
    rw [← hxk, ← hxn, ← hxs, ← hxa, ← hxl, ← hxc] at HCP ⊢
    rw [← hxd]
    rw [← hxk] at c0
    rw [← hxn] at c1
    rw [← hxs] at c2
    rw [← hxa, ← hxl, ← hxc] at c3
    have HXD := hid hxd
    clear hxd hxk hxn hxs hxa hxl hxc
    gi_wp2
    refine R.wp_region_mix [1, 0, 1, 2, 3, 0] (fun W' => W'.cell? ⟨W.heap.size, 0, none⟩ = some (.func (.yield lp) #[] #[]) ∧ W'.cell? ⟨Bx, 0, none⟩ = some (.int .i64 xk) ∧ W'.cell? ⟨Bx, 1, none⟩ = some (.int .i64 xn) ∧ W'.cell? ⟨Bx, 2, none⟩ = some (.string xs) ∧ W'.cell? ⟨Bx, 3, none⟩ = some (.slice xa xl xc)) (by kernel_rfl) (by kernel_rfl) ⟨y0, c0, c1, c2, c3⟩ ?_
    repeat (first
      | (refine' E.wpMix_value _ rfl rfl _ _; rotate_left; (solve | (intro W; go_simp) | (intro W; go_simp; with_reducible rfl)); simp only [Act.put, List.setIfInBounds_toArray, List.set_cons_zero, List.set_cons_succ])
      | (refine' E.wpMix_read _ rfl rfl _ _; rotate_left; (solve | (rintro W ⟨h1, h2, h3, h4, h5⟩; go_simp) | (rintro W ⟨h1, h2, h3, h4, h5⟩; go_simp; with_reducible rfl)); simp only [Act.put, List.setIfInBounds_toArray, List.set_cons_zero, List.set_cons_succ]))
    refine E.wpMix_call 51 #[.agg #[.int .i64 xk, .int .i64 xn, .string xs, .slice xa xl xc], .int .i64 256] (by decide) rfl (by go_simp) ?_
    refine HCP.out.mono ?_
    rintro e W5 ⟨ck, cn, cb, ca, cl, cc, rfl, hx5, hb5⟩
    have hb5' : Below Wc.heap.size Wc W5 := (Below.refl _ Wc).drew.trans hb5
    refine ⟨_, rfl, fun _ => ⟨(hb5'.cell (lt_cell y0)).trans y0, (hb5'.cell (lt_cell c0)).trans c0, (hb5'.cell (lt_cell c1)).trans c1, (hb5'.cell (lt_cell c2)).trans c2, (hb5'.cell (lt_cell c3)).trans c3⟩, ?_⟩
    simp only [Act.put, List.setIfInBounds_toArray, List.set_cons_zero, List.set_cons_succ]
    obtain ⟨m, hmv, hmc, hms⟩ := VS.tree hx5
    have hq5 : KQ (fun b => b < B) w0 W5 := HH.out.q.t (KQ.below hb5')
    have hm5 : MS W5 (LB B W5) m := hms.weak (fun b hb => by
      rcases hb with (hb | hb) | hb
      · exact .inl hb
      · exact .inr (hb.kq hq5)
      · exact .inr hb.2)
    have hJ5 := HAJ.out _ _ _ _ HH.out.j (grown_below hb5') (fun r e => by cases e)
    obtain ⟨fn, tmps, assign, body, hy, hRd⟩ := HY.out pre' (xd, m) W5 hJ5 hm5
    rw [yargs, hmc] at hy
    have hy5 := (hb5'.block W.heap.size (lt_of_heap HH.out.y)).trans HH.out.y
    have HRD := hid (roundIn_wide (m := n - 1 - 1 - 1) hRd)
    have HMV := hid hmv
    have HQ5 := hid hq5
    have HB5 := hid hb5'
    have HY5 := hid hy5
    clear hx5 hb5 hb5' hmv hmc hms hm5 hJ5 hRd hq5 hy5 y0 c0 c1 c2 c3 HCP
    dsimp only at hy
    refine E.wpMix_round lp fn tmps assign body (by decide) rfl (by go_simp) ?_
    refine HRD.out.mono ?_
    rintro e W6 (⟨rfl, hJ6, hk6, hf6⟩ | ⟨rfl, hJx6, hf6⟩)
    · refine ⟨_, rfl, (fun h => by cases h), ?_⟩
      simp only [Act.put, List.setIfInBounds_toArray, List.set_cons_zero, List.set_cons_succ]
      have HJ6 := hid hJ6
      have HK6 := hid hk6
      have HF6 := hid hf6
      clear hJ6 hk6 hf6
      refine E.wpMix_value (.bool false) rfl rfl (by intro W; go_simp) ?_
      simp only [Act.put, List.setIfInBounds_toArray, List.set_cons_zero, List.set_cons_succ]
      refine E.wpMix_end ?_
      gi_wp2
      refine ⟨(kf_below _ HB5.out).trans (kf_up HF6.out (by omega)), (KQ.below HB5.out).t (LB.kq HQ5.out HK6.out.1), pre' ++ [(xd, m)], ?_, HJ6.out, HK6.out.2 _ _ _ HY5.out, HQ5.out.t HK6.out.1⟩
      rw [HCW.out, List.map_append, HH.out.eq]
      simp only [List.map_cons, List.map_nil, vrp, HMV.out, HXD.out]
    · refine ⟨_, rfl, (fun h => by cases h), ?_⟩
      simp only [Act.put, List.setIfInBounds_toArray, List.set_cons_zero, List.set_cons_succ]
      have HJ6 := hid hJx6
      have HF6 := hid hf6
      clear hJx6 hf6
      refine E.wpMix_value (.bool true) rfl rfl (by intro W; go_simp) ?_
      simp only [Act.put, List.setIfInBounds_toArray, List.set_cons_zero, List.set_cons_succ]
      refine E.wpMix_end ?_
      gi_wp2
      refine ⟨(kf_below _ HB5.out).trans (kf_up HF6.out (by omega)), rfl, pre' ++ [(xd, m)], ?_, HJ6.out⟩
      rw [HCW.out, List.map_append, HH.out.eq]
      simp only [List.map_cons, List.map_nil, vrp, HMV.out, HXD.out]
  case done =>
    rintro D ys Wc hD rfl ⟨pre', H⟩ hK
    have hfull : tolds (walkM v 0).attach = walkM v 0 := by unfold tolds; exact List.attach_map_subtype_val _
    have HH := hid H
    have HF := hid hfull
    clear H hfull
    gi_wp2
    refine ⟨by simp, .inl ⟨_, _, rfl, run_takeDeferred hK, ?_⟩⟩
    refine ⟨_, results_none rfl _ _ _, ⟨_, rfl⟩, .inl ⟨pre', ?_, HAJ.out.putObj _ HH.out.j (by omega) hK rfl⟩⟩
    rw [HH.out.eq, HF.out]
  case stop =>
    rintro D c pre Wc hD hp ⟨rfl, pre', h1, h2⟩ hK
    have HH := hid h2
    have HE := hid h1
    clear h1 h2
    gi_wp2
    refine ⟨by simp, .inl ⟨_, _, rfl, run_takeDeferred hK, ?_⟩⟩
    refine ⟨_, results_none rfl _ _ _, ⟨_, rfl⟩, .inr ⟨pre', ?_, HAJX.out.putObj _ HH.out (by omega) hK rfl⟩⟩
    rw [HE.out]
    obtain ⟨r, hr⟩ := hp
    have hfull : tolds (walkM v 0).attach = walkM v 0 := by unfold tolds; exact List.attach_map_subtype_val _
    refine ⟨(tolds r).map vrp, ?_⟩
    rw [← List.map_append]
    have e : tolds pre ++ tolds r = walkM v 0 := by
      rw [← hfull, ← hr]; simp [tolds]
    rw [e]
end Go.Proofs.Ytplckmoeaeabgaa
