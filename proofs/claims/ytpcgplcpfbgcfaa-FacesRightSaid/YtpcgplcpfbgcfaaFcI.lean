/-
  The contract of faces.Is.
-/
import Derived.Test.YtpcgplcpfbgcfaaFcW
namespace Go.Proofs.Ytpcgplcpfbgcfaa
open Go Go.ChangeShapes Go.WideShapes Go.ChangeAt Go.RowKit Go.Shelf
attribute [local go_sem] Oper.semAt_some

/-- Is j in i's line? -/
def isL (l : List Face) (i j : Int) : Bool := (lineL l i).any fun k => decide ((k : Int) = j)
theorem isL_true {l : List Face} {i j : Int} {pre : List Nat} (hp : pre <+: lineL l i) (h : ∃ k ∈ pre, (k : Int) = j) : isL l i j = true := by
  obtain ⟨k, hk, e⟩ := h
  unfold isL
  rw [List.any_eq_true]
  exact ⟨k, hp.subset hk, by simpa using e⟩
theorem isL_false {l : List Face} {i j : Int} (h : ∀ k ∈ lineL l i, (k : Int) ≠ j) : isL l i j = false := by
  unfold isL
  rw [List.any_eq_false]
  exact fun k hk => by simpa using h k hk
theorem vals_prefix {l : List Face} {i : Int} {pre : List (Pl l i)} (h : pre <+: (lineL l i).attach) : vals pre <+: lineL l i := by
  have := h.map (fun x : Pl l i => x.1)
  unfold vals
  simpa using this
def IsPost (w0 : World) (r : Bool) (e : Ending) (W' : World) : Prop := e = .returned (.bool r) ∧ Below w0.heap.size w0 W'
/-- Between two rounds of Is. -/
structure II (w0 : World) (j : Int) (pre : List Nat) (r : Bool) (W : World) : Prop where
  b0 : Boxed W w0.heap.size 3 (.int .i64 j)
  b1 : Boxed W (w0.heap.size + 1) 4 (.bool r)
  no : r = false → ∀ k ∈ pre, (k : Int) ≠ j
  yes : r = true → ∃ k ∈ pre, (k : Int) = j
  below : Below w0.heap.size w0 W
theorem II.kept {w0 : World} {j : Int} {pre : List Nat} {r : Bool} {W W' : World} {row : Option Nat} (h : II w0 j pre r W) (hg : W.grownBy W' row) (hr : ∀ r, row = some r → w0.heap.size ≤ r ∧ ∃ o : Obj, W.heap[r]? = some o ∧ o.isCells = false) : II w0 j pre r W' :=
  have hr' := fun r e => (hr r e).2
  ⟨h.b0.kept hg (not_cells h.b0 hr'), h.b1.kept hg (not_cells h.b1 hr'), h.no, h.yes, h.below.grown hg h.below.size (fun k e => (hr k e).1)⟩
set_option maxRecDepth 100000 in
set_option maxHeartbeats 4000000 in
theorem Is_in (n : Nat) (hn : 3 ≤ n) (w : World) (ad : Option Addr) (N cap : Nat) (l : List Face) (i j : Int) (hF : FRow w w.heap.size ad l) (hN : N = l.length) :
    CallsIn Fence.wide n Try.prog 23 #[.slice ad N cap, .int .i64 i, .int .i64 j] w (IsPost w (isL l i j)) := by
  have h1 : 1 ≤ n := by omega
  have HF := hid hF
  have HN := hid hN
  clear hF hN
  refine callsIn_of_wp_marks Try.func23 rfl trivial ?_ rfl
  simp only [Try.ntmps23, List.size_toArray, List.length_cons, List.length_nil, Nat.reduceAdd, Nat.reduceSub, Array.replicate_succ, Array.replicate_zero, List.push_toArray, List.append_toArray, List.nil_append, List.cons_append]
  gi_wp2
  first
    | refine (callsIn_wide.2 (line_any _ _ _ _ _)).mono ?_
    | refine ⟨trivial, (callsIn_wide.2 (line_any _ _ _ _ _)).mono ?_⟩
    | refine ⟨trivial, (fun h => by cases h), (callsIn_wide.2 (line_any _ _ _ _ _)).mono ?_⟩
  rintro e w' ⟨rfl, rfl⟩
  simp only [World.size_alloc]
  have b0 := (((Boxed.new w 3 (.int .i64 j)).alloc (.cells #[.bool false] 4)).alloc (.cells #[.slice ad N cap] 22)).alloc (.cells #[.int .i64 i] 3)
  have b1 := ((Boxed.new (w.alloc (.cells #[.int .i64 j] 3)) 4 (.bool false)).alloc (.cells #[.slice ad N cap] 22)).alloc (.cells #[.int .i64 i] 3)
  have b2 := (Boxed.new ((w.alloc (.cells #[.int .i64 j] 3)).alloc (.cells #[.bool false] 4)) 22 (.slice ad N cap)).alloc (.cells #[.int .i64 i] 3)
  have b3 := Boxed.new (((w.alloc (.cells #[.int .i64 j] 3)).alloc (.cells #[.bool false] 4)).alloc (.cells #[.slice ad N cap] 22)) 3 (.int .i64 i)
  simp only [World.size_alloc] at b1 b2 b3
  have hB0 : Below w.heap.size w ((((w.alloc (.cells #[.int .i64 j] 3)).alloc (.cells #[.bool false] 4)).alloc (.cells #[.slice ad N cap] 22)).alloc (.cells #[.int .i64 i] 3)) := ((((Below.refl _ w).alloc (Nat.le_refl _) _).alloc (by simp) _).alloc (by simp; omega) _).alloc (by simp; omega) _
  have hst := line_stops (n - 1) _ _ cap w.heap.size N (fun _ => True) ad l i _ b3 b2 (HF.out.below hB0) HN.out (by simp; omega) (fun _ _ => trivial) trivial
  have hI0 : II w j [] false _ := ⟨b0, b1, (fun _ k hk => by simp at hk), (fun h => by simp at h), hB0⟩
  have hsz : w.heap.size ≤ ((((w.alloc (.cells #[.int .i64 j] 3)).alloc (.cells #[.bool false] 4)).alloc (.cells #[.slice ad N cap] 22)).alloc (.cells #[.int .i64 i] 3)).heap.size := hB0.size
  obtain ⟨w0, hw0⟩ : ∃ w0, w0 = ((((w.alloc (.cells #[.int .i64 j] 3)).alloc (.cells #[.bool false] 4)).alloc (.cells #[.slice ad N cap] 22)).alloc (.cells #[.int .i64 i] 3)) := ⟨_, rfl⟩
  rw [← hw0] at hst hI0 hsz ⊢
  have HST := hid hst
  have HI := hid hI0
  clear hst hI0 hw0 b0 b1 b2 b3 hB0 HF
  gi_wp2
  refine wpIn_rangeFunc_ownF rfl h1 (gf := 32) (lb := #[.pointer (some ⟨w.heap.size + 1 + 1 + 1, 0, none⟩), .pointer (some ⟨w.heap.size + 1 + 1, 0, none⟩)]) rfl trivial (enters_of Try.func32 (by kernel_rfl) rfl)
    HST.out (fun h k => h.t k) (fun W l o o' _ h2 h3 _ => KS.b _ W l o o' h2 h3) (Below.refl _ _) (fun _ => rfl)
    (fun pre W => II w j (vals pre) false W) (fun c pre W => c = .ret ∧ II w j (vals pre) true W)
    (fun _ _ _ _ h hg hr => h.kept hg (fun r e => ⟨Nat.le_trans hsz (hr r e).1, (hr r e).2⟩)) (fun _ _ _ _ _ ⟨hc, h⟩ hg hr => ⟨hc, h.kept hg (fun r e => ⟨Nat.le_trans hsz (hr r e).1, (hr r e).2⟩)⟩) HI.out
    (fun x => { tmps := #[.slice ad N cap, .int .i64 i, .int .i64 j, undef, undef, .pointer (some ⟨w.heap.size, 0, none⟩), .pointer (some ⟨w.heap.size + 1, 0, none⟩), .int .i64 (x.1 : Int), .slice ad N cap, .int .i64 i, .func (.func 32) #[] #[.pointer (some ⟨w.heap.size + 1 + 1 + 1, 0, none⟩), .pointer (some ⟨w.heap.size + 1 + 1, 0, none⟩)], .int .i64 (x.1 : Int), undef, undef, undef], defers := [] }) ?assign ?body ?done ?stop
  case assign =>
    intro lp x W K hK
    gi_wp2
    exact hK
  case body =>
    rintro lp pre x W H hlen2
    have HH := hid H
    have e0 := H.b0.cell
    have e1 := H.b1.cell
    have f1 := H.b1.frozen
    clear H
    by_cases hxj : (x.1 : Int) = j
    · have hd : ((x.1 : Int) == j) = true := by simpa using hxj
      have HX := hid hxj
      clear hxj
      gi_wp2
      refine ⟨KeepsOthers.setCell _ _ _, rfl, HH.out.b0.other (by omega) _, HH.out.b1.set _, (fun h => by simp at h), (fun _ => ⟨x.1, by rw [vals_app]; simp, HX.out⟩), HH.out.below.setCell (p := ⟨w.heap.size + 1, 0, none⟩) (by simp) _⟩
    · have hd : ((x.1 : Int) == j) = false := by simpa using hxj
      have HX := hid hxj
      clear hxj
      gi_wp2
      refine ⟨KeepsOthers.refl _, KS.refl _ _, HH.out.b0, HH.out.b1, (fun _ k hk => ?_), (fun h => by simp at h), HH.out.below⟩
      rw [vals_app] at hk
      rcases List.mem_append.1 hk with hk | hk
      · exact HH.out.no rfl k hk
      · simp at hk; rw [hk]; exact HX.out
  case done =>
    rintro D ys W hD rfl H hK
    have e1 := H.b1.cell
    have f1 := H.b1.frozen
    have HH := hid H
    clear H
    gi_wp2
    have hK' := (KeepsOthers.setCell W ⟨w.heap.size + 1, 0, none⟩ (.bool false)).same D _ hK rfl
    refine ⟨by simp, .inl ⟨_, _, rfl, run_takeDeferred hK', ?_⟩⟩
    have hc5 := cell_kept (HH.out.b1.set (.bool false)).cell (grownBy_putObj' _ D (.deferred none)) (fun r e => by cases e; exact ⟨_, hK', rfl⟩)
    have hno : isL l i j = false := isL_false (by have := HH.out.no rfl; rw [vals_all] at this; exact this)
    refine ⟨.bool false, ?_, by rw [hno], (HH.out.below.setCell (p := ⟨w.heap.size + 1, 0, none⟩) (by simp) _).trans (belowK_b (w := w) (Nat.le_refl _) _ D _ _ (by omega) hK' rfl rfl)⟩
    simp [results, Try.f23, go_sem, hc5]
  case stop =>
    rintro D c pre W hD hp ⟨rfl, H⟩ hK
    have e1 := H.b1.cell
    have HH := hid H
    clear H
    gi_wp2
    refine ⟨by simp, .inl ⟨_, _, rfl, run_takeDeferred hK, ?_⟩⟩
    have hc5 := cell_kept HH.out.b1.cell (grownBy_putObj' _ D (.deferred none)) (fun r e => by cases e; exact ⟨_, hK, rfl⟩)
    have hyes : isL l i j = true := isL_true (vals_prefix hp) (HH.out.yes rfl)
    refine ⟨.bool true, ?_, by rw [hyes], HH.out.below.trans (belowK_b (w := w) (Nat.le_refl _) _ D _ _ (by omega) hK rfl rfl)⟩
    simp [results, Try.f23, go_sem, hc5]
theorem Is_any (w : World) (ad : Option Addr) (N cap : Nat) (l : List Face) (i j : Int) (hF : FRow w w.heap.size ad l) (hN : N = l.length) :
    Calls Try.prog 23 #[.slice ad N cap, .int .i64 i, .int .i64 j] w (IsPost w (isL l i j)) :=
  (callsIn_wide (n := 3)).1 (Is_in 3 (by omega) w ad N cap l i j hF hN)
end Go.Proofs.Ytpcgplcpfbgcfaa
