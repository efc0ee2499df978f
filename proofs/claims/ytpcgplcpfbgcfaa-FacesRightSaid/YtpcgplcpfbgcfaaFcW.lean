/-
  The iterator of slices.Values; the contract of the law's line.
-/
import Derived.Test.YtpcgplcpfbgcfaaFcV
namespace Go.Proofs.Ytpcgplcpfbgcfaa
open Go Go.ChangeShapes Go.WideShapes Go.ChangeAt Go.RowKit Go.Shelf
attribute [local go_sem] Oper.semAt_some

theorem pc_at {L : List Nat} {q k : Nat} (h : L[q]? = some k) : (pc L)[q]? = some (.int .i64 (k : Int)) := by simp [pc, h]
/-- A slice in whose places these numbers lie. -/
def Lies (w : World) (a : Option Addr) (L : List Nat) : Prop := ∀ (q k : Nat), L[q]? = some k → ∃ g, a = some ⟨g, 0, none⟩ ∧ w.cell? ⟨g, q, none⟩ = some (.int .i64 (k : Int))
theorem lies_of_owns {w : World} {B n c : Nat} {a : Option Addr} {L : List Nat} (h : w.ownsRow B 3 1 (.slice a n c) n (pc L)) : Lies w a L := fun q k hq => by
  have hp := pc_at hq
  have hl : q < L.length := (List.getElem?_eq_some_iff.1 hq).1
  have hn : n = L.length := by have := h.1; rw [pc_len] at this; omega
  obtain ⟨g, cap, e, _⟩ := h.form (by omega)
  cases e
  refine ⟨g, rfl, ?_⟩
  have := h.cells (g := g) rfl q _ hp
  have e : (⟨g, 0, none⟩ : Addr).add q = ⟨g, q, none⟩ := by
    cases q <;> simp [Addr.add]
  rwa [e] at this
theorem Lies.below {w w' : World} {a : Option Addr} {L : List Nat} (h : Lies w a L) (hB : Below w.heap.size w w') : Lies w' a L := fun q k hq => by
  obtain ⟨g, h1, h3⟩ := h q k hq
  exact ⟨g, h1, (hB.cell (p := ⟨g, q, none⟩) (World.block_lt_of_cell? w _ h3)).trans h3⟩
theorem Lies.ks {S : Nat → Prop} {w w' : World} {a : Option Addr} {L : List Nat} (h : Lies w a L) (hk : KS S w w') (hS : ∀ g, a = some ⟨g, 0, none⟩ → S g) : Lies w' a L := fun q k hq => by
  obtain ⟨g, h1, h3⟩ := h q k hq
  exact ⟨g, h1, hk.cell (p := ⟨g, q, none⟩) (hS g h1) h3⟩
set_option maxRecDepth 100000 in
set_option maxHeartbeats 1000000 in
theorem values_any (n lp A c N : Nat) (S : Nat → Prop) (a : Option Addr) (L : List Nat) (J Jx : List Nat → World → Prop)
    (hY : ∀ pre (x : Nat) W, J pre W → pre.length < L.length → YieldAt Fence.wide (n - 1) Try.prog lp #[.int .i64 (x : Int)] W fun e W' =>
      (e = .returned (.bool true) ∧ J (pre ++ [x]) W' ∧ KS S W W') ∨ (e = .returned (.bool false) ∧ Jx (pre ++ [x]) W'))
    (W : World) (hA : Boxed W A 32 (.slice a N c)) (hL : Lies W a L) (hN : N = L.length) (hN2 : N ≤ 1000000) (hS : ∀ g, a = some ⟨g, 0, none⟩ → S g) (h0 : J [] W) :
    CallsIn Fence.wide n Try.prog 33 #[.func (.yield lp) #[] #[], .pointer (some ⟨A, 0, none⟩)] W fun e W' => (∃ v, e = .returned v) ∧ ((∃ ys, ys = L ∧ J ys W') ∨ (∃ pre, pre <+: L ∧ Jx pre W')) := by
  have HY := hid hY
  have H0 := hid h0
  have HL := hid hL
  have HN := hid hN
  have HS := hid hS
  have ca := hA.cell
  clear hY h0 hL hN hS hA
  refine callsIn_of_wp Try.func33 rfl trivial ?_ rfl
  simp only [Try.ntmps33, List.size_toArray, List.length_cons, List.length_nil, Nat.reduceAdd, Nat.reduceSub, Array.replicate_succ, Array.replicate_zero, List.push_toArray, List.append_toArray, List.nil_append, List.cons_append]
  gi_wp2
  gi_loopw [7] (fun p wr => ∃ q : Nat, q ≤ N ∧ p = .int .i64 q ∧ RowKit.Hid (J (L.take q) wr) ∧ RowKit.Hid (KS S W wr)) (fun p _ => N - (intOf p).toNat)
  case atStart => exact ⟨0, by omega, rfl, hid (by simpa using H0.out), hid (KS.refl _ _)⟩
  case round =>
    obtain ⟨q, hq, rfl, HJ, HK⟩ := hrel
    by_cases hql : q < N
    · have hx : L[q]? = some (L[q]'(by have := HN.out; omega)) := List.getElem?_eq_getElem (by have := HN.out; omega)
      generalize (L[q]'(by have := HN.out; omega)) = k at hx
      have htk : L.take (q + 1) = L.take q ++ [k] := by rw [List.take_add_one, hx]; rfl
      have HT := hid htk
      obtain ⟨g, rfl, cg⟩ := (HL.out.ks HK.out HS.out) q k hx
      have hy0 := HY.out (L.take q) k wr HJ.out (by have := HN.out; simp; omega)
      obtain ⟨fn, tmps, assign, body, hy, hRd⟩ := hy0
      have HRD := hid hRd
      clear hRd htk hx
      gi_wp2
      refine ⟨(fun h => by cases h), HRD.out.mono ?_⟩
      rintro e W3 (⟨rfl, hJ3, hk3⟩ | ⟨rfl, hJx3⟩)
      · have J3 := hid hJ3
        have K3 := hid (HK.out.t hk3)
        clear hJ3 hk3
        gi_wp2
        go_roundw
        case rel => exact ⟨q + 1, by omega, by go_num, by rw [HT.out]; exact J3, K3⟩
        case measure => simp [intOf]; omega
      · have J3 := hid hJx3
        clear hJx3
        gi_wp2
        refine bodyPost_ret (results_none rfl _ _ _) rfl ?_
        exact ⟨⟨_, rfl⟩, .inr ⟨_, (by have h := List.take_prefix (q + 1) L; rw [HT.out] at h; exact h), J3.out⟩⟩
    · obtain rfl : q = N := by omega
      have ht : L.take q = L := List.take_of_length_le (by rw [← HN.out]; exact Nat.le_refl _)
      have HT := hid ht
      clear ht
      gi_wp2
      go_end0
      exact ⟨⟨_, rfl⟩, .inl ⟨_, rfl, by have := HJ.out; rw [HT.out] at this; exact this⟩⟩
theorem values_stops (n A B : Nat) (S : Nat → Prop) (lv : Value) (L : List Nat) (w : World) (hA : Boxed w A 32 lv) (hrow : w.ownsRow B 3 1 lv L.length (pc L)) (hlen : L.length ≤ 1000000) (hS : ∀ g, lv.ownBlock = some g → S g) :
    SeqStopsK Fence.wide n Try.prog 33 #[.pointer (some ⟨A, 0, none⟩)] (fun x : Nat => #[.int .i64 (x : Int)]) (KS S) (fun ys => ys = L) (fun pre => pre <+: L) L.length w := fun lp J Jx W hW _ _ hY h0 => by
  obtain ⟨a, c, rfl⟩ := own_form hrow
  have hl := lies_of_owns hrow
  exact values_any n lp A c L.length _ a L J Jx hY W ((hW.block A hA.lt).trans hA) (hl.below hW) rfl hlen (fun g hg => hS g (by rw [hg]; rfl)) h0
/-- 'out = append(out, x)' in its box: all that is known behind it. -/
theorem box_push {W w1 : World} {n₀ B : Nat} {t e : TypeId} {size : Nat} {v v' : Value} {k m : Nat} {xs ys : List Value} {tmp : Obj}
    (hv : Boxed W B t v) (hte : t ≠ e) (hrow : W.ownsRow n₀ e size v k xs) (hown' : w1.ownsRow n₀ e size v' m ys) (hgrow : (W.alloc tmp).grownBy w1 v.ownBlock) :
    Boxed w1 B t v ∧ Boxed (w1.setCell ⟨B, 0, none⟩ v') B t v' ∧ (w1.setCell ⟨B, 0, none⟩ v').ownsRow n₀ e size v' m ys ∧ KeepsOthers W (w1.setCell ⟨B, 0, none⟩ v') ∧
    (∀ S : Nat → Prop, ¬ S B → (∀ k, n₀ ≤ k → ¬ S k) → KS S W (w1.setCell ⟨B, 0, none⟩ v')) ∧ (∀ B0, B0 ≤ B → B0 ≤ n₀ → B0 ≤ W.heap.size → Below B0 W (w1.setCell ⟨B, 0, none⟩ v')) ∧
    (∀ (B' : Nat) (t' : TypeId) (u : Value), Boxed W B' t' u → B' < n₀ → B' ≠ B → Boxed (w1.setCell ⟨B, 0, none⟩ v') B' t' u) := by
  have hv1 : Boxed w1 B t v := (hv.alloc tmp).kept hgrow (hv.not_row hte hrow)
  have hown2 := hown'.kept (grownBy_setCell' w1 B v') (.inr (hv1.not_row hte hown').symm)
  have hlow : ∀ j, v.ownBlock = some j → n₀ ≤ j := fun j ej => (hrow.lt j ej).1
  refine ⟨hv1, hv1.set v', hown2, ?_, fun S h1 h2 => ?_, fun B0 h1 h2 h3 => ?_, fun B' t' u h h1 h2 => ?_⟩
  · refine ((KeepsOthers.alloc W tmp).trans (KeepsOthers.of_grownBy hgrow fun j o ej hj => ?_)).trans (KeepsOthers.setCell _ _ _)
    rcases (hrow.alloc tmp).2 with ⟨rfl, _⟩ | ⟨g, cap, cur, rfl, _, hgb, _⟩
    · simp [Value.ownBlock] at ej
    · obtain rfl : g = j := by simpa [Value.ownBlock] using ej
      rw [hgb] at hj; cases hj; rfl
  · exact (((KS.refl S W).alloc tmp).grown hgrow (fun j ej => h2 j (hlow j ej))).set _ _ h1
  · exact (((Below.refl B0 W).alloc h3 tmp).grown hgrow (by simp; omega) (fun j ej => Nat.le_trans h2 (hlow j ej))).setCell (p := ⟨B, 0, none⟩) h1 v'
  · refine ((h.alloc tmp).kept hgrow (fun e2 => ?_)).kept (grownBy_setCell' w1 B v') (by simpa using h2)
    have := hlow B' e2.symm; omega
theorem func_ne_nil (f : Nat) (fv : Array Value) (W : World) : (binOp .neq 50 (.func (.func f) #[] fv) .nilFunc).run Try.prog W = .ok (.bool true) W := by kernel_rfl
/-- Between two rounds of the law's line. -/
structure LI (w0 : World) (n0 : Nat) (m : Int) (pre : List Nat) (lv : Value) (W : World) : Prop where
  b0 : Boxed W w0.heap.size 3 (.int .i64 m)
  b1 : Boxed W (w0.heap.size + 1) 32 lv
  row : W.ownsRow n0 3 1 lv pre.length (pc pre)
  ml : (pre.length : Int) ≤ m
  below : Below w0.heap.size w0 W
  sz : n0 ≤ W.heap.size
theorem LI.kept {w0 : World} {n0 : Nat} {m : Int} {pre : List Nat} {lv : Value} {W W' : World} {row : Option Nat} (h : LI w0 n0 m pre lv W) (hg : W.grownBy W' row) (hr : ∀ r, row = some r → w0.heap.size ≤ r ∧ ∃ o : Obj, W.heap[r]? = some o ∧ o.isCells = false) : LI w0 n0 m pre lv W' :=
  have hr' := fun r e => (hr r e).2
  ⟨h.b0.kept hg (not_cells h.b0 hr'), h.b1.kept hg (not_cells h.b1 hr'), owns_not_cells h.row hg hr', h.ml, h.below.grown hg h.below.size (fun k e => (hr k e).1), Nat.le_trans h.sz hg.size⟩
def LIs (w0 : World) (n0 : Nat) (m : Int) (pre : List Nat) (W : World) : Prop := ∃ lv, LI w0 n0 m pre lv W
theorem LIs.ownFrom (w0 : World) (n0 : Nat) (m : Int) (B : Nat) (hB : w0.heap.size ≤ B) : OwnFrom B (LIs w0 n0 m) := fun _ _ _ _ ⟨lv, h⟩ hg hr =>
  ⟨lv, h.kept hg (fun r e => ⟨Nat.le_trans hB (hr r e).1, (hr r e).2⟩)⟩
/-- The loop was left ahead of this one. -/
def LX (w0 : World) (n0 : Nat) (m : Int) (c : Code) (ps : List Nat) (W : World) : Prop := c = .exit 0 ∧ ∃ pre x, ps = pre ++ [x] ∧ (pre.length : Int) = m ∧ LIs w0 n0 m pre W
theorem LX.ownFrom (w0 : World) (n0 : Nat) (m : Int) (B : Nat) (hB : w0.heap.size ≤ B) (c : Code) : OwnFrom B (LX w0 n0 m c) := fun _ W W' row ⟨hc, pre, x, h1, h2, h3⟩ hg hr =>
  ⟨hc, pre, x, h1, h2, LIs.ownFrom w0 n0 m B hB pre W W' row h3 hg hr⟩
set_option maxRecDepth 100000 in
set_option maxHeartbeats 4000000 in
theorem told_in (n : Nat) (hn : 3 ≤ n) (w : World) (ad : Option Addr) (N cap : Nat) (l : List Face) (i m : Int) (hF : FRow w w.heap.size ad l) (hN : N = l.length) (hN2 : N ≤ 1000000) (hm : 0 ≤ m) (hm2 : m ≤ 2000000) :
    CallsIn Fence.wide n Try.prog 16 #[.slice ad N cap, .int .i64 i, .int .i64 m] w (SeqPost w ((lineL l i).take m.toNat)) := by
  have h1 : 1 ≤ n := by omega
  obtain ⟨i0, hi, hz0, hz1, hz2⟩ := info_parts info3
  have hB0 : Below w.heap.size w ((w.alloc (.cells #[.int .i64 m] 3)).alloc (.cells #[.slice none 0 0] 32)) := ((Below.refl _ w).alloc (Nat.le_refl _) _).alloc (by simp) _
  have hL := Line_any _ ad N cap l i (hF.on hB0) hN hN2
  have hb0 := (Boxed.new w 3 (.int .i64 m)).alloc (.cells #[.slice none 0 0] 32)
  have hb1 := Boxed.new (w.alloc (.cells #[.int .i64 m] 3)) 32 (.slice none 0 0)
  rw [World.size_alloc] at hb1
  have HL := hid hL
  have HB0 := hid hB0
  have Hb0 := hid hb0
  have Hb1 := hid hb1
  have hlen := lineL_len l i
  have HLEN := hid hlen
  have HN := hid hN
  clear hL hB0 hF hN hb0 hb1 hlen
  refine callsIn_of_wp_marks Try.func16 rfl trivial ?_ rfl
  simp only [Try.ntmps16, List.size_toArray, List.length_cons, List.length_nil, Nat.reduceAdd, Nat.reduceSub, Array.replicate_succ, Array.replicate_zero, List.push_toArray, List.append_toArray, List.nil_append, List.cons_append]
  have hq := func_ne_nil
  gi_wp2
  first
    | refine (callsIn_wide.2 HL.out).mono ?_
    | refine ⟨trivial, (callsIn_wide.2 HL.out).mono ?_⟩
    | refine ⟨trivial, (fun h => by cases h), (callsIn_wide.2 HL.out).mono ?_⟩
  rintro e w1 ⟨A, lv, rfl, hA, hG⟩
  have HG := hid hG
  have hA2 := hG.bx.lt
  clear hG HL
  gi_wp2
  clear hq
  have hb01 : Below w.heap.size w w1 := HB0.out.trans (HG.out.below.mono HB0.out.size)
  have hw1 : w.heap.size + 2 ≤ w1.heap.size := by have := HG.out.below.size; simp at this; omega
  have hH0 : LI w w1.heap.size m [] (.slice none 0 0) w1 := by
    refine ⟨(HG.out.below.block _ Hb0.out.lt).trans Hb0.out, (HG.out.below.block _ Hb1.out.lt).trans Hb1.out, World.ownsRow_nil _ _ _ _, by simpa using hm, hb01, Nat.le_refl _⟩
  have hst := values_stops (n - 1) A _ (fun k => k < w1.heap.size ∧ k ≠ w.heap.size + 1) lv (lineL l i) w1 HG.out.bx HG.out.row (by have := HLEN.out; have := HN.out; omega) (fun g hg => ⟨(HG.out.row.lt g hg).2, fun e => (hH0.b1.not_row (by decide) HG.out.row) (by rw [← e]; exact hg.symm)⟩)
  have HST := hid hst
  have HH0 := hid hH0
  clear hst hH0 hb01 Hb0 Hb1
  refine wpIn_rangeFunc_ownF rfl h1 (gf := 33) (lb := #[.pointer (some ⟨A, 0, none⟩)]) rfl trivial (enters_of Try.func33 (by kernel_rfl) rfl)
    HST.out (fun h k => h.t k) (fun W l o o' _ h2 h3 _ => KS.b _ W l o o' h2 h3) (Below.refl _ _) (fun _ => rfl)
    (LIs w w1.heap.size m) (LX w w1.heap.size m) (LIs.ownFrom w w1.heap.size m _ (by omega)) (LX.ownFrom w w1.heap.size m _ (by omega)) ⟨_, HH0.out⟩
    (fun x => { tmps := #[.slice ad N cap, .int .i64 i, .int .i64 m, undef, undef, .pointer (some ⟨w.heap.size, 0, none⟩), .slice none 0 0, .pointer (some ⟨w.heap.size + 1, 0, none⟩), .func (.func 33) #[] #[.pointer (some ⟨A, 0, none⟩)], .int .i64 (x : Int), .slice ad N cap, .int .i64 i, .func (.func 33) #[] #[.pointer (some ⟨A, 0, none⟩)], .func (.func 33) #[] #[.pointer (some ⟨A, 0, none⟩)], .bool true, .func (.func 33) #[] #[.pointer (some ⟨A, 0, none⟩)], .int .i64 (x : Int), undef, undef, undef, undef, undef, undef, undef, undef, undef], defers := [] }) ?assign ?body ?done ?stop
  case assign =>
    intro lp x W K hK
    gi_wp2
    exact hK
  case body =>
    rintro lp pre x W ⟨lv, H⟩ hlen2
    have HH := hid H
    have e0 := H.b0.cell
    have e1 := H.b1.cell
    have f1 := H.b1.frozen
    have hml := H.ml
    obtain ⟨la, lk, rfl⟩ := own_form H.row
    clear H
    by_cases hfull : (pre.length : Int) = m
    · have hge : decide (m ≤ (pre.length : Int)) = true := by simp; omega
      have HF := hid hfull
      clear hfull
      gi_wp2
      exact ⟨KeepsOthers.refl _, rfl, pre, x, rfl, HF.out, _, HH.out⟩
    · have hge : decide (m ≤ (pre.length : Int)) = false := by simp; omega
      have hlt : (pre.length : Int) < m := by omega
      clear hfull
      have H := HH.out
      have hsz := H.sz
      gi_wp2_with (first
        | (gi_at_builtin; refine wpListIn_append_own _ rfl _ _ 32 rfl w1.heap.size 3 i0 (.int .i64 0) 1 8 Try.underlying32 hi hz0 hz1 hz2 rfl (by decide) _ _ _ rfl (H.row.alloc _) ⟨W.heap.size, 0, none⟩ 1 1 [.int .i64 (x : Int)] rfl rfl (cell_one_new _ _ _) (by simp [Value.oneCell']) (by simp only [maxLen]; omega) (by omega) (by simp; omega) ?_; intro v' w2 hown' hgrow _; obtain ⟨g', cap', rfl⟩ := ownsRow_succ hown'; obtain ⟨p1, p2, p3, p4, p5, p6, p7⟩ := box_push H.b1 (by decide) H.row hown' hgrow; have hc1 := p1.cell; have hf1 := p1.frozen))
      refine ⟨p4, p5 _ (fun h => h.2 rfl) (fun k h1 h2 => by have := h2.1; omega), _, p7 _ _ _ H.b0 (by omega) (by omega), p2, ?_, ?_, H.below.trans (p6 _ (by omega) (by omega) H.below.size), ?_⟩
      · rw [List.length_append, pc_app]; exact p3
      · simp; omega
      · exact Nat.le_trans H.sz p4.size
  case done =>
    rintro D ys W hD hyL ⟨lv, H⟩ hK
    subst hyL
    have e1 := H.b1.cell
    have HH := hid H
    clear H
    gi_wp2
    have hK' : W.heap[D]? = some (.deferred (some [])) := hK
    have ht : (lineL l i).take m.toNat = lineL l i := List.take_of_length_le (by have := HH.out.ml; omega)
    refine ⟨by simp, .inl ⟨_, _, rfl, run_takeDeferred hK', ?_⟩⟩
    refine ⟨_, results_tmp rfl _ _ _, lv, rfl, ?_, ?_⟩
    · rw [ht]; exact owns_low (ownsRow_putObj HH.out.row _ hK' rfl) (by omega)
    · exact HH.out.below.trans (belowK_b (w := w) (Nat.le_refl _) W D _ _ (by omega) hK' rfl rfl)
  case stop =>
    rintro D c pre0 W hD hp ⟨rfl, pre, x, rfl, hl, lv, H⟩ hK
    have ht : (lineL l i).take m.toNat = pre := by
      obtain ⟨t, ht⟩ := hp
      rw [← ht, List.append_assoc, List.take_append_of_le_length (by omega), List.take_of_length_le (by omega)]
    have e1 := H.b1.cell
    have HH := hid H
    have HT := hid ht
    clear H ht
    gi_wp2
    have hK' : W.heap[D]? = some (.deferred (some [])) := hK
    refine ⟨by simp, .inl ⟨_, _, rfl, run_takeDeferred hK', ?_⟩⟩
    refine ⟨_, results_tmp rfl _ _ _, lv, rfl, ?_, ?_⟩
    · rw [HT.out]; exact owns_low (ownsRow_putObj HH.out.row _ hK' rfl) (by omega)
    · exact HH.out.below.trans (belowK_b (w := w) (Nat.le_refl _) W D _ _ (by omega) hK' rfl rfl)
theorem told_any (w : World) (ad : Option Addr) (N cap : Nat) (l : List Face) (i m : Int) (hF : FRow w w.heap.size ad l) (hN : N = l.length) (hN2 : N ≤ 1000000) (hm : 0 ≤ m) (hm2 : m ≤ 2000000) :
    Calls Try.prog 16 #[.slice ad N cap, .int .i64 i, .int .i64 m] w (SeqPost w ((lineL l i).take m.toNat)) :=
  (callsIn_wide (n := 3)).1 (told_in 3 (by omega) w ad N cap l i m hF hN hN2 hm hm2)
end Go.Proofs.Ytpcgplcpfbgcfaa
