/-
  slices.Collect of a line; slices.Values; the contract of faces.Line.
-/
import Derived.Test.YtpcgplcpfbgcfaaFcL
namespace Go.Proofs.Ytpcgplcpfbgcfaa
open Go Go.ChangeShapes Go.WideShapes Go.ChangeAt Go.RowKit Go.Shelf
attribute [local go_sem] Oper.semAt_some

theorem info3 : (Try.prog.info? 3).map (fun i => (i.zero, i.size, i.bytes)) = some (some (.int .i64 0), 1, 8) := by kernel_rfl
/-- Places as cells. -/
def pc (L : List Nat) : List Value := L.map fun (k : Nat) => Value.int .i64 (k : Int)
theorem pc_len (L : List Nat) : (pc L).length = L.length := by simp [pc]
theorem pc_app (L : List Nat) (k : Nat) : pc (L ++ [k]) = pc L ++ [.int .i64 (k : Int)] := by simp [pc]
theorem ks_below {B : Nat} {W W' : World} (h : Below B W W') : KS (fun k => k < B) W W' := fun k cs t fr hS hk => by rw [h.block k hS]; exact hk
theorem not_cells {W : World} {row : Option Nat} {k : Nat} {cs : Array Value} {t : TypeId} {fz : Nat × Nat} (h : W.heap[k]? = some (.cells cs t fz)) (hr : ∀ r, row = some r → ∃ o : Obj, W.heap[r]? = some o ∧ o.isCells = false) : some k ≠ row := fun e => by
  obtain ⟨o, ho, hc⟩ := hr k e.symm
  rw [h] at ho; cases ho; cases hc
theorem owns_not_cells {W W' : World} {row : Option Nat} {B : Nat} {e : TypeId} {s n : Nat} {v : Value} {xs : List Value} (h : W.ownsRow B e s v n xs) (hg : W.grownBy W' row) (hr : ∀ r, row = some r → ∃ o : Obj, W.heap[r]? = some o ∧ o.isCells = false) : W'.ownsRow B e s v n xs := by
  refine h.kept hg ?_
  rcases h.2 with ⟨rfl, _⟩ | ⟨g, cap, cur, rfl, _, hgb, _⟩
  · exact .inl rfl
  · exact .inr (not_cells hgb hr)
theorem own_form {w : World} {B : Nat} {e : TypeId} {k n : Nat} {v : Value} {xs : List Value} (h : w.ownsRow B e k v n xs) : ∃ a' k', v = .slice a' n k' := by
  rcases h.2 with ⟨q1, q2⟩ | ⟨g, cap', _, q1, _⟩
  · exact ⟨none, 0, by rw [q1, q2]⟩
  · exact ⟨_, cap', q1⟩
/-- A box holds the places that have come. -/
structure Got (w0 : World) (A n0 : Nat) (L : List Nat) (lv : Value) (W : World) : Prop where
  bx : Boxed W A 32 lv
  row : W.ownsRow n0 3 1 lv L.length (pc L)
  below : Below w0.heap.size w0 W
theorem Got.kept {w0 : World} {A n0 : Nat} {L : List Nat} {lv : Value} {W W' : World} {row : Option Nat} (h : Got w0 A n0 L lv W) (hg : W.grownBy W' row) (hr : ∀ r, row = some r → w0.heap.size ≤ r ∧ ∃ o : Obj, W.heap[r]? = some o ∧ o.isCells = false) : Got w0 A n0 L lv W' :=
  ⟨h.bx.kept hg (not_cells h.bx (fun r e => (hr r e).2)), owns_not_cells h.row hg (fun r e => (hr r e).2), h.below.grown hg h.below.size (fun k e => (hr k e).1)⟩
def Gots (w0 : World) (A n0 : Nat) (L : List Nat) (W : World) : Prop := ∃ lv, Got w0 A n0 L lv W
theorem Gots.ownFrom {α : Type} (f : List α → List Nat) (w0 : World) (A n0 : Nat) (B : Nat) (hB : w0.heap.size ≤ B) : OwnFrom B (fun pre W => Gots w0 A n0 (f pre) W) := fun _ _ _ _ ⟨lv, h⟩ hg hr =>
  ⟨lv, h.kept hg (fun r e => ⟨Nat.le_trans hB (hr r e).1, (hr r e).2⟩)⟩
def vals {l : List Face} {i : Int} (pre : List (Pl l i)) : List Nat := pre.map (·.1)
theorem vals_all (l : List Face) (i : Int) : vals (lineL l i).attach = lineL l i := by simp [vals]
theorem vals_app {l : List Face} {i : Int} (pre : List (Pl l i)) (x : Pl l i) : vals (pre ++ [x]) = vals pre ++ [x.1] := by simp [vals]
theorem vals_len {l : List Face} {i : Int} (pre : List (Pl l i)) : (vals pre).length = pre.length := by simp [vals]

def SeqPost (w0 : World) (L : List Nat) (e : Ending) (W' : World) : Prop := ∃ lv, e = .returned lv ∧ W'.ownsRow w0.heap.size 3 1 lv L.length (pc L) ∧ Below w0.heap.size w0 W'
set_option maxRecDepth 100000 in
set_option maxHeartbeats 4000000 in
theorem AppendSeq_in (n : Nat) (hn : 3 ≤ n) (w : World) (Bi Bl cap B N : Nat) (ad : Option Addr) (l : List Face) (i : Int) (hBi : Boxed w Bi 3 (.int .i64 i)) (hBl : Boxed w Bl 22 (.slice ad N cap)) (hF : FRow w B ad l) (hN : N = l.length) (hB : B ≤ w.heap.size) (hN2 : N ≤ 1000000) :
    CallsIn Fence.wide n Try.prog 34 #[.slice none 0 0, .func (.func 32) #[] #[.pointer (some ⟨Bi, 0, none⟩), .pointer (some ⟨Bl, 0, none⟩)]] w (SeqPost w (lineL l i)) := by
  have h1 : 1 ≤ n := by omega
  have hlen := lineL_len l i
  obtain ⟨i0, hi, hz0, hz1, hz2⟩ := info_parts info3
  refine callsIn_of_wp_marks Try.func34 rfl trivial ?_ rfl
  simp only [Try.ntmps34, List.size_toArray, List.length_cons, List.length_nil, Nat.reduceAdd, Nat.reduceSub, Array.replicate_succ, Array.replicate_zero, List.push_toArray, List.append_toArray, List.nil_append, List.cons_append]
  gi_wp2
  have hG0 : Got w w.heap.size w.heap.size [] (.slice none 0 0) (w.alloc (.cells #[.slice none 0 0] 32)) :=
    ⟨Boxed.new w 32 _, World.ownsRow_nil _ _ _ _, (Below.refl _ _).alloc (Nat.le_refl _) _⟩
  have hst := line_stops (n - 1) Bi Bl cap B N (fun k => k < w.heap.size) ad l i (w.alloc (.cells #[.slice none 0 0] 32)) (hBi.alloc _) (hBl.alloc _) (hF.below ((Below.refl _ _).alloc hB _)) hN (by simp; omega) (fun k hk => by omega) hBl.lt
  have hsz : w.heap.size < (w.alloc (.cells #[.slice none 0 0] 32)).heap.size := by simp
  obtain ⟨w0, hw0⟩ : ∃ w0, w0 = w.alloc (.cells #[.slice none 0 0] 32) := ⟨_, rfl⟩
  rw [← hw0] at hG0 hst hsz ⊢
  have HST := hid hst
  have HG := hid hG0
  clear hst hG0 hw0 hBi hBl hF
  refine wpIn_rangeFunc_ownF rfl h1 (gf := 32) (lb := #[.pointer (some ⟨Bi, 0, none⟩), .pointer (some ⟨Bl, 0, none⟩)]) rfl trivial (enters_of Try.func32 (by kernel_rfl) rfl)
    HST.out (fun h k => h.t k) (fun W l o o' _ h2 h3 _ => KS.b _ W l o o' h2 h3) (Below.refl _ _) (fun _ => rfl)
    (fun pre W => Gots w w.heap.size w.heap.size (vals pre) W) (fun _ _ _ => False) (Gots.ownFrom vals w w.heap.size w.heap.size _ (by omega)) (fun _ _ _ _ _ h _ _ => h) ⟨_, HG.out⟩
    (fun x => { tmps := #[.slice none 0 0, .func (.func 32) #[] #[.pointer (some ⟨Bi, 0, none⟩), .pointer (some ⟨Bl, 0, none⟩)], .pointer (some ⟨w.heap.size, 0, none⟩), undef, .slice none 0 0, .int .i64 (x.1 : Int), .func (.func 32) #[] #[.pointer (some ⟨Bi, 0, none⟩), .pointer (some ⟨Bl, 0, none⟩)], .int .i64 (x.1 : Int), undef, undef, undef, undef, undef], defers := [] }) ?assign ?body ?done ?stop
  case assign =>
    intro l x W K hK
    gi_wp2
    exact hK
  case body =>
    rintro lp pre x W ⟨lv, H⟩ hlen2
    have e1 := H.bx.cell
    have f1 := H.bx.frozen
    obtain ⟨la, lk, hlv⟩ := own_form H.row
    rw [vals_len] at hlv
    subst hlv
    have hrow := H.row
    rw [vals_len] at hrow
    gi_wp2_with (first
      | (gi_at_builtin; refine wpListIn_append_own _ rfl _ _ 32 rfl w.heap.size 3 i0 (.int .i64 0) 1 8 Try.underlying32 hi hz0 hz1 hz2 rfl (by decide) _ _ _ rfl (hrow.alloc _) ⟨W.heap.size, 0, none⟩ 1 1 [.int .i64 (x.1 : Int)] rfl rfl (cell_one_new _ _ _) (by simp [Value.oneCell']) (by simp only [maxLen]; omega) (by omega) (by have := H.bx.lt; simp; omega) ?_; intro v' w1 hown' hgrow _; obtain ⟨g', cap', rfl⟩ := ownsRow_succ hown'; obtain ⟨hv1, hv2, hr2, hk2, hb2⟩ := H.bx.appended (by decide) hrow (Nat.le_of_lt H.bx.lt) (Nat.le_refl _) hown' hgrow; have hc1 := hv1.cell; have hf1 := hv1.frozen))
    refine ⟨hk2, ks_below hb2, _, hv2, ?_, H.below.trans hb2⟩
    rw [vals_app, List.length_append, pc_app, vals_len]
    exact hr2
  case done =>
    rintro D ys W hD rfl ⟨lv, H⟩ hK
    have e1 := H.bx.cell
    have HH := hid H
    clear H
    gi_wp2
    have hK' : W.heap[D]? = some (.deferred (some [])) := hK
    refine ⟨by simp, .inl ⟨_, _, rfl, run_takeDeferred hK', ?_⟩⟩
    refine ⟨_, results_tmp rfl _ _ _, lv, rfl, ?_, ?_⟩
    · have := HH.out.row
      rw [vals_all] at this
      exact ownsRow_putObj this _ hK' rfl
    · exact HH.out.below.trans (belowK_b (w := w) (Nat.le_refl _) W D _ _ (by omega) hK' rfl rfl)
  case stop =>
    rintro D c pre W _ _ h _
    exact h.elim
theorem Collect_any (w : World) (Bi Bl cap B N : Nat) (ad : Option Addr) (l : List Face) (i : Int) (hBi : Boxed w Bi 3 (.int .i64 i)) (hBl : Boxed w Bl 22 (.slice ad N cap)) (hF : FRow w B ad l) (hN : N = l.length) (hB : B ≤ w.heap.size) (hN2 : N ≤ 1000000) :
    Calls Try.prog 31 #[.func (.func 32) #[] #[.pointer (some ⟨Bi, 0, none⟩), .pointer (some ⟨Bl, 0, none⟩)]] w (SeqPost w (lineL l i)) := by
  have hs := (callsIn_wide (n := 3)).1 (AppendSeq_in 3 (by omega) w Bi Bl cap B N ad l i hBi hBl hF hN hB hN2)
  have HS := hid hs
  clear hs hBi hBl hF hN hB hN2
  go_enter Try.func31, Try.ntmps31
  go_wp2_with fail
  refine HS.out.mono ?_
  rintro e w' ⟨lv, rfl, h1, h2⟩
  have H1 := hid h1
  have H2 := hid h2
  clear h1 h2
  go_wp2
  go_ret
  exact ⟨_, rfl, H1.out, H2.out⟩
theorem owns_low {w : World} {B B' : Nat} {e : TypeId} {k n : Nat} {v : Value} {xs : List Value} (h : w.ownsRow B e k v n xs) (hB : B' ≤ B) : w.ownsRow B' e k v n xs := by
  refine ⟨h.1, ?_⟩
  rcases h.2 with q | ⟨g, cap, cur, q1, q2, q3⟩
  · exact .inl q
  · exact .inr ⟨g, cap, cur, q1, Nat.le_trans hB q2, q3⟩
theorem Values_any (a : Option Addr) (n c : Nat) (w : World) : Calls Try.prog 30 #[.slice a n c] w fun e w' => e = .returned (.func (.func 33) #[] #[.pointer (some ⟨w.heap.size, 0, none⟩)]) ∧ w' = w.alloc (.cells #[.slice a n c] 32) := by
  go_enter Try.func30, Try.ntmps30
  go_wp2
  go_ret
  exact ⟨rfl, rfl⟩
/-- What faces.Line hands back: a function value over a box that holds the line's places. -/
def LinePost (w0 : World) (L : List Nat) (e : Ending) (W' : World) : Prop :=
  ∃ A lv, e = .returned (.func (.func 33) #[] #[.pointer (some ⟨A, 0, none⟩)]) ∧ w0.heap.size ≤ A ∧ Got w0 A w0.heap.size L lv W'
set_option maxRecDepth 100000 in
theorem Line_any (w : World) (ad : Option Addr) (N cap : Nat) (l : List Face) (i : Int) (hF : FRow w w.heap.size ad l) (hN : N = l.length) (hN2 : N ≤ 1000000) :
    Calls Try.prog 27 #[.slice ad N cap, .int .i64 i] w (LinePost w (lineL l i)) := by
  have b1 := (Boxed.new w 22 (.slice ad N cap)).alloc (.cells #[.int .i64 i] 3)
  have b2 := Boxed.new (w.alloc (.cells #[.slice ad N cap] 22)) 3 (.int .i64 i)
  rw [World.size_alloc] at b2
  have hB : Below w.heap.size w ((w.alloc (.cells #[.slice ad N cap] 22)).alloc (.cells #[.int .i64 i] 3)) := ((Below.refl _ w).alloc (Nat.le_refl _) _).alloc (by simp) _
  have hs := Collect_any _ _ _ cap w.heap.size N ad l i b2 b1 (hF.below hB) hN (by simp; omega) hN2
  have HS := hid hs
  have HB := hid hB
  clear hs hB b1 b2 hF hN hN2
  go_enter Try.func27, Try.ntmps27
  go_wp2_with (go_at_call 28; refine (line_any _ _ _ _ _).mono ?_; rintro e w' ⟨rfl, rfl⟩)
  refine HS.out.mono ?_
  rintro e w1 ⟨lv, rfl, h1, h2⟩
  obtain ⟨la, lk, rfl⟩ := own_form h1
  have H1 := hid h1
  have H2 := hid h2
  clear h1 h2 HS
  go_wp2_with (go_at_call 30; refine (Values_any _ _ _ _).mono ?_; rintro e w' ⟨rfl, rfl⟩)
  go_ret
  have hb := HB.out.trans (H2.out.mono HB.out.size)
  exact ⟨_, _, rfl, hb.size, Boxed.new w1 32 _, owns_low (H1.out.alloc _) HB.out.size, hb.alloc hb.size _⟩
end Go.Proofs.Ytpcgplcpfbgcfaa
