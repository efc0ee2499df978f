/-
  The contract of told: the first counts that a tally tells.
-/
import Derived.Test.YtmmmjkmhlkkdkaaTlI
namespace Go.Proofs.Ytmmmjkmhlkkdkaa
open Go.ChangeShapes Go.WideShapes Go.ChangeAt Go.RowKit Go.Maps Go.Shelf
attribute [local go_sem] Oper.semAt_some

theorem info60 : (Try.prog.info? 60).map (fun i => (i.zero, i.size, i.bytes)) = some (some (.agg #[.int .u64 0, .int .u32 0]), 2, 16) := by kernel_rfl
/-- Between two rounds of told: what its variables' boxes hold. -/
structure HI (w0 : World) (m : Int) (pre : List (Int × Int)) (lv : Value) (W : World) : Prop where
  b0 : Boxed W w0.heap.size 3 (.int .i64 m)
  b1 : Boxed W (w0.heap.size + 1) 27 lv
  lr : W.ownsRow (w0.heap.size + 1) 60 2 lv pre.length (pre.flatMap encE)
  ml : (pre.length : Int) ≤ m
  below : Below w0.heap.size w0 W
def HIs (w0 : World) (m : Int) (pre : List (Int × Int)) (W : World) : Prop := ∃ lv, HI w0 m pre lv W
theorem HI.kept {w0 : World} {m : Int} {pre : List (Int × Int)} {lv : Value} {W W' : World} {row : Option Nat} (h : HI w0 m pre lv W) (hg : W.grownBy W' row) (hr : ∀ r, row = some r → w0.heap.size ≤ r ∧ ∃ o : Obj, W.heap[r]? = some o ∧ o.isCells = false) : HI w0 m pre lv W' :=
  have hr' := fun r e => (hr r e).2
  ⟨h.b0.kept hg (not_cells h.b0 hr'), h.b1.kept hg (not_cells h.b1 hr'), owns_not_cells h.lr hg hr', h.ml, h.below.grown hg h.below.size (fun k e => (hr k e).1)⟩
theorem HIs.ownFrom (w0 : World) (m : Int) (B : Nat) (hB : w0.heap.size ≤ B) : OwnFrom B (HIs w0 m) := fun _ _ _ _ ⟨lv, h⟩ hg hr =>
  ⟨lv, h.kept hg (fun r e => ⟨Nat.le_trans hB (hr r e).1, (hr r e).2⟩)⟩
/-- The loop was left ahead of this one. -/
def HX (w0 : World) (m : Int) (c : Code) (ps : List (Int × Int)) (W : World) : Prop := c = .exit 0 ∧ ∃ pre x, ps = pre ++ [x] ∧ (pre.length : Int) = m ∧ HIs w0 m pre W
theorem HX.ownFrom (w0 : World) (m : Int) (B : Nat) (hB : w0.heap.size ≤ B) (c : Code) : OwnFrom B (HX w0 m c) := fun _ W W' row ⟨hc, pre, x, h1, h2, h3⟩ hg hr =>
  ⟨hc, pre, x, h1, h2, HIs.ownFrom w0 m B hB pre W W' row h3 hg hr⟩
/-- What grows apart from rows of entries keeps these. -/
theorem K74.grown {W W' : World} {o : Obj} {B : Nat} {e : TypeId} {s n : Nat} {v : Value} {xs : List Value} (hg : (W.alloc o).grownBy W' v.ownBlock) (ho : W.ownsRow B e s v n xs) (he : e ≠ 74) : K74 W W' := fun k cs hk => by
  have hlt : k < W.heap.size := (Array.getElem?_eq_some_iff.1 hk).1
  rw [hg.block k (by simp; omega) (fun e2 => ?_), Below.heap_alloc W o k hlt]
  · exact hk
  · rcases ho.2 with ⟨rfl, _⟩ | ⟨g, cap, cur, rfl, _, hgb, _⟩
    · simp [Value.ownBlock] at e2
    · simp [Value.ownBlock] at e2
      subst e2
      rw [hk] at hgb; cases hgb; exact he rfl
theorem K74.set {W : World} {b : Nat} {t : TypeId} {v : Value} (u : Value) (h : Boxed W b t v) (ht : t ≠ 74) : K74 W (W.setCell ⟨b, 0, none⟩ u) := fun k cs hk => by
  have hne : k ≠ b := fun e => by
    subst e
    have := (show W.heap[k]? = _ from h).symm.trans hk
    simp at this
    exact ht this.2
  rw [Below.heap_setCell _ _ _ _ hne]; exact hk
/-- 'out = append(out, x)' in its box: what became of all else. -/
theorem boxed_step {W w1 : World} {n₀ B : Nat} {t e : TypeId} {size : Nat} {v v' : Value} {k m : Nat} {xs ys : List Value} {tmp : Obj}
    (hv : Boxed W B t v) (hte : t ≠ e) (hrow : W.ownsRow n₀ e size v k xs) (_ : w1.ownsRow n₀ e size v' m ys) (hgrow : (W.alloc tmp).grownBy w1 v.ownBlock) :
    (∀ (B' : Nat) (t' : TypeId) (u : Value), Boxed W B' t' u → (t' ≠ e ∨ B' < n₀) → B' ≠ B → Boxed (w1.setCell ⟨B, 0, none⟩ v') B' t' u) ∧
    (e ≠ 74 → t ≠ 74 → K74 W (w1.setCell ⟨B, 0, none⟩ v')) := by
  have hv1 : Boxed w1 B t v := (hv.alloc tmp).kept hgrow (hv.not_row hte hrow)
  have hlow : ∀ B', B' < n₀ → some B' ≠ v.ownBlock := fun B' hlt e2 => by
    rcases hrow.2 with ⟨rfl, _⟩ | ⟨g, cap, cur, rfl, hgb, _⟩
    · simp [Value.ownBlock] at e2
    · simp [Value.ownBlock] at e2; omega
  exact ⟨fun B' t' u h ht hB => ((h.alloc tmp).kept hgrow (ht.elim (fun ht => h.not_row ht hrow) (fun hlt e2 => hlow B' hlt e2))).kept (grownBy_setCell' w1 B v') (by simpa using hB), fun he ht => (K74.grown hgrow hrow he).t (K74.set v' hv1 ht)⟩
theorem cell_one_at (w : World) (x y : Value) (t : TypeId) (k : Nat) (hk : k = w.heap.size) : ∀ j u, [x, y][j]? = some u → (w.alloc (.cells #[x, y] t)).cell? ((⟨k, 0, none⟩ : Addr).add j) = some u := by
  subst hk; exact World.news_of_block (heap_alloc_new w _)

def TellPost (w0 : World) (m : Int) (all : List (Int × Int)) (e : Ending) (W' : World) : Prop :=
  ∃ lv, e = .returned lv ∧ W'.ownsRow (w0.heap.size + 1) 60 2 lv (all.take m.toNat).length ((all.take m.toNat).flatMap encE) ∧ Below w0.heap.size w0 W'
set_option maxRecDepth 100000 in
set_option maxHeartbeats 4000000 in
theorem told_in (n : Nat) (hn : 3 ≤ n) (p b nn : Nat) (most : Int) (L : TM) (m : Int) (w : World) (hT : TlW w p b nn most L) (hm : 0 ≤ m ∧ m ≤ 65536) (hN : nn ≤ 65536) :
    CallsIn Fence.wide n Try.prog 13 #[.pointer (some ⟨p, 0, none⟩), .int .i64 m] w (TellPost w m L) := by
  have h1 : 1 ≤ n := by omega
  obtain ⟨i0, hi, hz0, hz1, hz2⟩ := info_parts info60
  refine callsIn_of_wp_marks Try.func13 rfl trivial ?_ rfl
  simp only [Try.ntmps13, List.size_toArray, List.length_cons, List.length_nil, Nat.reduceAdd, Nat.reduceSub, Array.replicate_succ, Array.replicate_zero, List.push_toArray, List.append_toArray, List.nil_append, List.cons_append]
  have hq := func_ne_nil
  gi_wp2
  first
    | refine (All_in Fence.wide (n - 1) trivial rfl _ _).mono ?_
    | refine ⟨trivial, (All_in Fence.wide (n - 1) trivial rfl _ _).mono ?_⟩
    | refine ⟨trivial, (fun h => by cases h), (All_in Fence.wide (n - 1) trivial rfl _ _).mono ?_⟩
  rintro e w' ⟨rfl, rfl⟩
  gi_wp2
  clear hq
  have c3 := new_cell ((w.alloc (.cells #[.int .i64 m] 3)).alloc (.cells #[.slice none 0 0] 27)) (.pointer (some ⟨p, 0, none⟩)) 24
  simp only [World.size_alloc] at c3
  have hB0 : Below w.heap.size w (((w.alloc (.cells #[.int .i64 m] 3)).alloc (.cells #[.slice none 0 0] 27)).alloc (.cells #[.pointer (some ⟨p, 0, none⟩)] 24)) := (((Below.refl _ w).alloc (Nat.le_refl _) _).alloc (by simp) _).alloc (by simp; omega) _
  have hT0 := hT.low hB0 hT.lt hT.ltb
  have hH0 : HI w m [] (.slice none 0 0) (((w.alloc (.cells #[.int .i64 m] 3)).alloc (.cells #[.slice none 0 0] 27)).alloc (.cells #[.pointer (some ⟨p, 0, none⟩)] 24)) := by
    refine ⟨((Boxed.new w 3 _).alloc _).alloc _, ?_, World.ownsRow_nil _ _ _ _, by simp; omega, hB0⟩
    have := (Boxed.new (w.alloc (.cells #[.int .i64 m] 3)) 27 (.slice none 0 0)).alloc (.cells #[.pointer (some ⟨p, 0, none⟩)] 24)
    rw [World.size_alloc] at this; exact this
  obtain ⟨w0, hw0⟩ : ∃ w0, w0 = (((w.alloc (.cells #[.int .i64 m] 3)).alloc (.cells #[.slice none 0 0] 27)).alloc (.cells #[.pointer (some ⟨p, 0, none⟩)] 24)) := ⟨_, rfl⟩
  have hsz : w.heap.size + 1 + 1 < w0.heap.size := by rw [hw0]; simp
  rw [← hw0] at c3 hB0 hT0 hH0 ⊢
  clear hw0
  have hlen := hT.length
  have hst : SeqStopsK Fence.wide (n - 1) Try.prog 32 #[.pointer (some ⟨w.heap.size + 1 + 1, 0, none⟩)] (fun x : Int × Int => #[.int .u64 x.1, .int .u32 x.2]) K74 (fun xs => xs = L) (fun pre => pre <+: L) L.length w0 := fun l J Jx W hW hJ hJx hY h0 => by
    have hbn : W.cell? ⟨w.heap.size + 1 + 1, 0, none⟩ = some (.pointer (some ⟨p, 0, none⟩)) := (hW.cell (p := ⟨w.heap.size + 1 + 1, 0, none⟩) hsz).trans c3
    exact iter_any (n - 1) l (w.heap.size + 1 + 1) p b nn most L J Jx hY W hbn (hT0.low hW hT0.lt hT0.ltb) (by omega) (fun s X Y hs hb => hJ s X Y none hs ⟨hb.os, hb.tape, hb.output, hb.size, fun k hk _ => hb.block k hk⟩ (fun r e => by cases e)) h0
  have HST := hid hst
  have HH0 := hid hH0
  clear hst hH0 c3 hT0 hT
  refine wpIn_rangeFunc_ownF rfl h1 (gf := 32) (lb := #[.pointer (some ⟨w.heap.size + 1 + 1, 0, none⟩)]) rfl trivial (enters_of Try.func32 (by kernel_rfl) rfl)
    HST.out (fun h k => h.t k) (fun W l o o' _ h2 h3 _ => K74.b W l o o' h2 h3) (Below.refl _ _) (fun _ => rfl)
    (HIs w m) (HX w m) (HIs.ownFrom w m _ (by omega)) (HX.ownFrom w m _ (by omega)) ⟨_, HH0.out⟩
    (fun x => { tmps := #[.pointer (some ⟨p, 0, none⟩), .int .i64 m, undef, .pointer (some ⟨w.heap.size, 0, none⟩), .slice none 0 0, .pointer (some ⟨w.heap.size + 1, 0, none⟩), .func (.func 32) #[] #[.pointer (some ⟨w.heap.size + 1 + 1, 0, none⟩)], .int .u64 x.1, .int .u32 x.2, .pointer (some ⟨p, 0, none⟩), .func (.func 32) #[] #[.pointer (some ⟨w.heap.size + 1 + 1, 0, none⟩)], .func (.func 32) #[] #[.pointer (some ⟨w.heap.size + 1 + 1, 0, none⟩)], .bool true, .func (.func 32) #[] #[.pointer (some ⟨w.heap.size + 1 + 1, 0, none⟩)], .int .u64 x.1, .int .u32 x.2, undef, undef, undef, undef, undef, undef, undef, undef, undef, undef, undef], defers := [] }) ?assign ?body ?done ?stop
  case assign =>
    intro l x W K hK
    gi_wp2
    exact hK
  case body =>
    rintro l pre x W ⟨lv, H⟩ hlen2
    have HH := hid H
    have e0 := H.b0.cell
    have e1 := H.b1.cell
    have f1 := H.b1.frozen
    have hml := H.ml
    obtain ⟨la, lk, hlv⟩ : ∃ a k, lv = .slice a pre.length k := by
      rcases H.lr.2 with ⟨q1, q2⟩ | ⟨g, cap, _, q1, _⟩
      · exact ⟨none, 0, by rw [q1, q2]⟩
      · exact ⟨_, cap, q1⟩
    subst hlv
    clear H
    by_cases hfull : (pre.length : Int) = m
    · have hge : decide (m ≤ (pre.length : Int)) = true := by simp; omega
      have HF := hid hfull
      clear hfull
      gi_wp2
      exact ⟨KeepsOthers.refl _, rfl, pre, x, rfl, HF.out, _, HH.out⟩
    · have hge : decide (m ≤ (pre.length : Int)) = false := by simp; omega
      have hlt : (pre.length : Int) < m := by omega
      clear hfull
      have H := HH.out
      have hml2 : (pre.length : Int) < 65536 := by omega
      have hBz := H.below.size
      gi_wp2_with (first
        | (gi_at_builtin; refine wpListIn_append_own _ rfl _ _ 27 rfl (w.heap.size + 1) 60 i0 (.agg #[.int .u64 0, .int .u32 0]) 2 16 Try.underlying27 hi hz0 hz1 hz2 rfl (by decide) _ _ _ rfl (H.lr.alloc _) ⟨W.heap.size, 0, none⟩ 1 1 [.int .u64 x.1, .int .u32 x.2] rfl rfl (cell_one_at _ _ _ _ W.heap.size rfl) (by simp [Value.oneCell']) (by simp only [maxLen]; omega) (by omega) (by have := H.b1.lt; simp; omega) ?_; intro v' w1 hown' hgrow _; obtain ⟨g', cap', rfl⟩ := ownsRow_succ hown'; obtain ⟨hv1, hv2, hr2, hk2, hb2⟩ := H.b1.appended (by decide) H.lr (Nat.le_of_lt H.b1.lt) (Nat.le_refl _) hown' hgrow; obtain ⟨s1, s3⟩ := boxed_step (B := w.heap.size + 1) H.b1 (by decide) H.lr hown' hgrow; have hc1 := hv1.cell; have hf1 := hv1.frozen))
      have c0' := s1 _ _ _ H.b0 (.inr (by omega)) (by omega)
      refine ⟨hk2, s3 (by decide) (by decide), _, c0', hv2, ?_, ?_, H.below.trans (hb2.mono (by omega))⟩
      · simpa [encE] using hr2
      · simp; omega
  case done =>
    rintro D ys W hD hyL ⟨lv, H⟩ hK
    obtain rfl : L = ys := hyL.symm
    have e1 := H.b1.cell
    have HH := hid H
    clear H
    gi_wp2
    have hK' : W.heap[D]? = some (.deferred (some [])) := hK
    have ht : L.take m.toNat = L := List.take_of_length_le (by have := HH.out.ml; omega)
    refine ⟨by simp, .inl ⟨_, _, rfl, run_takeDeferred hK', ?_⟩⟩
    refine ⟨_, results_tmp rfl _ _ _, lv, rfl, ?_, ?_⟩
    · rw [ht]; exact ownsRow_putObj HH.out.lr _ hK' rfl
    · exact HH.out.below.trans (belowK_b (w := w) (Nat.le_refl _) W D _ _ (by omega) hK' rfl rfl)
  case stop =>
    rintro D c pre0 W hD hp ⟨rfl, pre, x, rfl, hl, lv, H⟩ hK
    have ht : L.take m.toNat = pre := by
      obtain ⟨t, ht⟩ := hp
      rw [← ht, List.append_assoc, List.take_append_of_le_length (by omega), List.take_of_length_le (by omega)]
    have e1 := H.b1.cell
    have HH := hid H
    have HT := hid ht
    clear H ht
    gi_wp2
    have hK' : W.heap[D]? = some (.deferred (some [])) := hK
    have ht := HT.out
    refine ⟨by simp, .inl ⟨_, _, rfl, run_takeDeferred hK', ?_⟩⟩
    refine ⟨_, results_tmp rfl _ _ _, lv, rfl, ?_, ?_⟩
    · rw [ht]; exact ownsRow_putObj HH.out.lr _ hK' rfl
    · exact HH.out.below.trans (belowK_b (w := w) (Nat.le_refl _) W D _ _ (by omega) hK' rfl rfl)
theorem told_any (p b nn : Nat) (most : Int) (L : TM) (m : Int) (w : World) (hT : TlW w p b nn most L) (hm : 0 ≤ m ∧ m ≤ 65536) (hN : nn ≤ 65536) :
    Calls Try.prog 13 #[.pointer (some ⟨p, 0, none⟩), .int .i64 m] w (TellPost w m L) :=
  (callsIn_wide (n := 3)).1 (told_in 3 (by omega) p b nn most L m w hT hm hN)
end Go.Proofs.Ytmmmjkmhlkkdkaa
