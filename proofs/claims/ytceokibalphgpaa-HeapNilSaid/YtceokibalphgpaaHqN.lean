/-
  A heap that is none: its calls.
-/
import Derived.Test.YtceokibalphgpaaHqY
import Derived.Test.YtceokibalphgpaaHpV
namespace Go.Proofs.Ytceokibalphgpaa
open Go Go.ChangeShapes Go.WideShapes Go.ChangeAt Go.RowKit Go.Shelf

theorem findWhole_nil (w : World) (hd : Int) : Calls Try.prog 50 #[.pointer none, .int .u64 hd] w fun e w' => e = .returned (.pointer none) ∧ w = w' := by
  go_enter Try.func50, Try.ntmps50
  go_wp2_with (refine (find_nil_heap _ _).mono ?_; rintro e w1 ⟨rfl, rfl⟩)
  go_ret
  exact ⟨rfl, rfl⟩
theorem Up_nil (w : World) (hd : Int) : Calls Try.prog 24 #[.pointer none, .int .u64 hd] w fun e w' => e = .returned (.tuple #[.int .u32 0, .int .i64 2]) ∧ w = w' := by
  go_enter Try.func24, Try.ntmps24
  go_wp2_with (refine (findWhole_nil _ _).mono ?_; rintro e w1 ⟨rfl, rfl⟩)
  go_ret2
  exact ⟨rfl, rfl⟩
theorem Count_nil (w : World) (hd : Int) : Calls Try.prog 26 #[.pointer none, .int .u64 hd] w fun e w' => e = .returned (.int .u32 0) ∧ w = w' := by
  go_enter Try.func26, Try.ntmps26
  go_wp2_with (refine (findWhole_nil _ _).mono ?_; rintro e w1 ⟨rfl, rfl⟩)
  go_ret
  exact ⟨rfl, rfl⟩
theorem Down_nil (w : World) (hd : Int) : Calls Try.prog 25 #[.pointer none, .int .u64 hd] w fun e w' => e = .returned (.tuple #[.slice none 0 0, .slice none 0 0, .int .i64 2]) ∧ w = w' := by
  go_enter Try.func25, Try.ntmps25
  go_wp2_with (refine (find_nil_heap _ _).mono ?_; rintro e w1 ⟨rfl, rfl⟩)
  go_ret3
  exact ⟨rfl, rfl⟩
theorem Put_nilh (w : World) (hd slot : Int) (x : Lk) : Calls Try.prog 27 #[.pointer none, .int .u64 hd, .int .i64 slot, .agg #[.int .i64 x.kind, .int .u64 x.h]] w fun e w' => e = .returned (.tuple #[.slice none 0 0, .slice none 0 0, .int .i64 2]) ∧ Below w.heap.size w w' := by
  obtain ⟨w1, hw1⟩ : ∃ w1, w1 = w.alloc (.cells #[.int .i64 x.kind, .int .u64 x.h] 67) := ⟨_, rfl⟩
  have HB1 := hid (show Below w.heap.size w w1 by rw [hw1]; exact (Below.refl _ _).alloc (Nat.le_refl _) _)
  have HW1 := hid hw1
  clear hw1
  go_enter Try.func27, Try.ntmps27
  go_upto_region 1 with fail
  rw [← HW1.out]
  go_wp2_with (refine (find_nil_heap _ _).mono ?_; rintro e w1 ⟨rfl, rfl⟩)
  go_ret3
  exact ⟨rfl, HB1.out⟩
theorem Value_nil (w : World) (hd : Int) : Calls Try.prog 29 #[.pointer none, .int .u64 hd] w fun e w' => e = .returned (.tuple #[.int .i64 0, .int .i64 2]) ∧ w = w' := by
  go_enter Try.func29, Try.ntmps29
  go_wp2_with (refine (find_nil_heap _ _).mono ?_; rintro e w1 ⟨rfl, rfl⟩)
  go_ret2
  exact ⟨rfl, rfl⟩
theorem Whole_nil (w : World) (hd : Int) : Calls Try.prog 30 #[.pointer none, .int .u64 hd] w fun e w' => e = .returned (.tuple #[.int .u64 0, .int .i64 2]) ∧ w = w' := by
  go_enter Try.func30, Try.ntmps30
  go_wp2_with (refine (find_nil_heap _ _).mono ?_; rintro e w1 ⟨rfl, rfl⟩)
  go_ret2
  exact ⟨rfl, rfl⟩
theorem Store_nil (w : World) (hd n : Int) : Calls Try.prog 32 #[.pointer none, .int .u64 hd, .int .i64 n] w fun e w' => e = .returned (.int .i64 2) ∧ w = w' := by
  go_enter Try.func32, Try.ntmps32
  go_wp2_with (refine (find_nil_heap _ _).mono ?_; rintro e w1 ⟨rfl, rfl⟩)
  go_ret
  exact ⟨rfl, rfl⟩
theorem Remove_nil (w : World) (v : Value) (l : List Int) (hv : Told TU u64v w v l) (hl : l ≠ []) : Calls Try.prog 31 #[.pointer none, v] w fun e w' => e = .returned (.tuple #[.slice none 0 0, .slice none 0 0, .int .i64 2]) ∧ w = w' := by
  obtain ⟨a, c, rfl, h1, h2, h3⟩ := hv.ex
  obtain ⟨x, l, rfl⟩ : ∃ x l', l = x :: l' := by
    cases l with
    | nil => exact absurd rfl hl
    | cons x l => exact ⟨x, l, rfl⟩
  obtain ⟨b, o, rfl, hb, hat⟩ := h3 (by simp)
  have c0 := hat 0 (u64v x) rfl
  rw [Nat.add_zero] at c0
  simp only [List.length_cons] at h1 ⊢
  generalize l.length = n at *
  clear hv h3 hat hl hb
  go_enter Try.func31, Try.ntmps31
  go_wp2_with fail
  go_loopw [14] (fun i wr => i = .int .i64 0 ∧ wr = w) (fun i _ => 1 - (intOf i).toNat)
  case atStart => exact ⟨rfl, rfl⟩
  case round =>
    obtain ⟨rfl, rfl⟩ := hrel
    go_wp2_with (refine (find_nil_heap _ _).mono ?_; rintro e w1 ⟨rfl, rfl⟩)
    go_ret3
    exact ⟨rfl, rfl⟩
theorem All_nilh (w : World) : Calls Try.prog 45 #[.pointer none] w fun e w' => e = .returned (.func (.func 60) #[] #[.pointer (some ⟨w.heap.size, 0, none⟩)]) ∧ w' = w.alloc (.cells #[.pointer none] 24) := by
  go_enter Try.func45, Try.ntmps45
  go_wp2
  go_ret
  exact ⟨rfl, rfl⟩
theorem Links_nilh (w : World) (hd : Int) : Calls Try.prog 57 #[.pointer none, .int .u64 hd] w fun e w' => e = .returned (.func (.func 68) #[] #[.pointer (some ⟨w.heap.size, 0, none⟩), .pointer (some ⟨w.heap.size + 1, 0, none⟩)]) ∧ w' = (w.alloc (.cells #[.pointer none] 24)).alloc (.cells #[.int .u64 hd] 34) := by
  go_enter Try.func57, Try.ntmps57
  go_wp2
  go_ret
  exact ⟨rfl, rfl⟩
section
attribute [local go_sem] Oper.semAt_some
theorem all_nil_tells (n Bp : Nat) (w : World) (hb : Boxed w Bp 24 (.pointer none)) :
    TellsX Fence.wide n Try.prog 60 #[.pointer (some ⟨Bp, 0, none⟩)] encU (fun (_ : Unit) W W' => Below W.heap.size W W') (fun _ _ _ => True) (fun _ _ => True) [] w := by
  intro lp J Jx W hW _ _ _ _ _ hOk
  show CallsIn Fence.wide n Try.prog 60 #[.func (.yield lp) #[] #[], .pointer (some ⟨Bp, 0, none⟩)] W (PartPost J Jx [])
  obtain ⟨w0, hw0⟩ : ∃ w0, w0 = W.alloc (.cells #[.func (.yield lp) #[] #[]] 131) := ⟨_, rfl⟩
  have hb0 : Below W.heap.size W w0 := by rw [hw0]; exact (Below.refl _ _).alloc (Nat.le_refl _) _
  have d0 : w0.cell? ⟨Bp, 0, none⟩ = some (.pointer none) := Boxed.cell (((hW.trans (hb0.mono hW.size)).block Bp hb.lt).trans hb)
  have HOK := hid (hOk () w0 hb0)
  have HW0 := hid hw0
  clear hOk hb0 hw0 hb hW
  refine callsIn_of_wp Try.func60 rfl trivial ?_ rfl
  simp only [Try.ntmps60, List.size_toArray, List.length_cons, List.length_nil, Nat.reduceAdd, Nat.reduceSub, Array.replicate_succ, Array.replicate_zero, List.push_toArray, List.append_toArray, List.nil_append, List.cons_append]
  gi_upto_region 1 with (fail)
  rw [← HW0.out]
  gi_wp2
  refine bodyPost_ret (results_none rfl _ _ _) rfl ?_
  exact ⟨⟨_, rfl⟩, .inl ⟨(), HOK.out⟩⟩
theorem links_nil_tells (n b1 b2 : Nat) (hd : Int) (w : World) (hb1 : Boxed w b1 24 (.pointer none)) (hb2 : Boxed w b2 34 (.int .u64 hd)) :
    TellsX Fence.wide n Try.prog 68 #[.pointer (some ⟨b1, 0, none⟩), .pointer (some ⟨b2, 0, none⟩)] encL (fun (_ : Unit) W W' => Below W.heap.size W W') (fun _ _ _ => True) (fun _ _ => True) [] w := by
  intro lp J Jx W hW _ _ _ _ _ hOk
  show CallsIn Fence.wide n Try.prog 68 #[.func (.yield lp) #[] #[], .pointer (some ⟨b1, 0, none⟩), .pointer (some ⟨b2, 0, none⟩)] W (PartPost J Jx [])
  have d1 : W.cell? ⟨b1, 0, none⟩ = some (.pointer none) := Boxed.cell ((hW.block b1 hb1.lt).trans hb1)
  have d2 : W.cell? ⟨b2, 0, none⟩ = some (.int .u64 hd) := Boxed.cell ((hW.block b2 hb2.lt).trans hb2)
  have HOK := hid (hOk () W (Below.refl _ _))
  clear hOk hb1 hb2 hW
  refine callsIn_of_wp Try.func68 rfl trivial ?_ rfl
  simp only [Try.ntmps68, List.size_toArray, List.length_cons, List.length_nil, Nat.reduceAdd, Nat.reduceSub, Array.replicate_succ, Array.replicate_zero, List.push_toArray, List.append_toArray, List.nil_append, List.cons_append]
  gi_wp2
  refine ⟨trivial, (fun h => by cases h), (callsIn_wide.2 (find_nil_heap _ _)).mono ?_⟩
  rintro e w' ⟨rfl, rfl⟩
  gi_wp2
  refine bodyPost_ret (results_none rfl _ _ _) rfl ?_
  exact ⟨⟨_, rfl⟩, .inl ⟨(), HOK.out⟩⟩
/-- Nothing that lay there has turned; these boxes are as they were. -/
structure NlI (w : World) (T1 T2 : TypeId) (u1 u2 : Value) (W : World) : Prop where
  b : Below w.heap.size w W
  b0 : Boxed W w.heap.size T1 u1
  b1 : Boxed W (w.heap.size + 1) T2 u2
theorem NlI.kept {w : World} {T1 T2 : TypeId} {u1 u2 : Value} {W W' : World} {row : Option Nat} (h : NlI w T1 T2 u1 u2 W) (hg : W.grownBy W' row) (hr : ∀ r, row = some r → w.heap.size ≤ r ∧ ∃ o : Obj, W.heap[r]? = some o ∧ o.isCells = false) : NlI w T1 T2 u1 u2 W' :=
  ⟨h.b.grown hg h.b.size (fun k e => (hr k e).1), h.b0.kept hg (not_cells h.b0 (fun r e => (hr r e).2)), h.b1.kept hg (not_cells h.b1 (fun r e => (hr r e).2))⟩
theorem NlI.on {w : World} {T1 T2 : TypeId} {u1 u2 : Value} {W W' : World} (h : NlI w T1 T2 u1 u2 W) (hb : Below W.heap.size W W') : NlI w T1 T2 u1 u2 W' :=
  ⟨h.b.trans (hb.mono h.b.size), (hb.block _ h.b0.lt).trans h.b0, (hb.block _ h.b1.lt).trans h.b1⟩
theorem NlI.new (w : World) (T1 T2 : TypeId) (u1 u2 : Value) : NlI w T1 T2 u1 u2 ((w.alloc (.cells #[u1] T1)).alloc (.cells #[u2] T2)) := by
  refine ⟨((Below.refl _ _).alloc (Nat.le_refl _) _).alloc (by simp) _, (Boxed.new w T1 u1).alloc _, ?_⟩
  have := Boxed.new (w.alloc (.cells #[u1] T1)) T2 u2
  simpa using this
theorem pre_nil {α : Type} {pre : List α} {x : α} (h : pre ++ [x] <+: ([] : List α)) : False := by
  have := h.length_le
  simp at this
set_option maxRecDepth 100000 in
set_option maxHeartbeats 4000000 in
theorem all_nil_in (n : Nat) (hn : 3 ≤ n) (w : World) (m : Int) : CallsIn Fence.wide n Try.prog 22 #[.pointer none, .int .i64 m] w fun e w' => Below w.heap.size w w' ∧ ∃ a c, e = .returned (.slice a 0 c) := by
  have h1 : 1 ≤ n := by omega
  obtain ⟨w1, hw1⟩ : ∃ w1, w1 = (w.alloc (.cells #[.int .i64 m] 3)).alloc (.cells #[.slice none 0 0] 43) := ⟨_, rfl⟩
  have hn1 : NlI w 3 43 (.int .i64 m) (.slice none 0 0) w1 := by rw [hw1]; exact NlI.new _ _ _ _ _
  have HN1 := hid hn1
  have HW1 := hid hw1
  clear hn1 hw1
  refine callsIn_of_wp_marks Try.func22 rfl trivial ?_ rfl
  simp only [Try.ntmps22, List.size_toArray, List.length_cons, List.length_nil, Nat.reduceAdd, Nat.reduceSub, Array.replicate_succ, Array.replicate_zero, List.push_toArray, List.append_toArray, List.nil_append, List.cons_append]
  have hq := seq_not_nil
  gi_upto_region 2 with (fail)
  rw [← HW1.out]
  gi_wp2_with fail
  first
    | refine (callsIn_wide.2 (All_nilh _)).mono ?_
    | refine ⟨trivial, (callsIn_wide.2 (All_nilh _)).mono ?_⟩
    | refine ⟨trivial, (fun h => by cases h), (callsIn_wide.2 (All_nilh _)).mono ?_⟩
  rintro e w2 ⟨rfl, hw2⟩
  have hb2 : Below w1.heap.size w1 w2 := by rw [hw2]; exact (Below.refl _ _).alloc (Nat.le_refl _) _
  have hbx : Boxed w2 w1.heap.size 24 (.pointer none) := by rw [hw2]; exact Boxed.new _ _ _
  have HN2 := hid (HN1.out.on hb2)
  have HBX := hid hbx
  clear hb2 hbx hw2
  gi_wp2
  clear hq
  refine rangeFunc_x rfl h1 (gf := 60) (lb := #[.pointer (some ⟨w1.heap.size, 0, none⟩)]) rfl trivial (enters_of Try.func60 (by kernel_rfl) rfl)
    (all_nil_tells (n - 1) _ w2 HBX.out) (fun _ _ _ h => h) (fun _ {A B C} _ _ => trivial) (fun _ _ _ _ _ _ _ _ _ => trivial) (fun _ => rfl)
    (fun (_ : Unit) _ W => NlI w 3 43 (.int .i64 m) (.slice none 0 0) W) (fun _ _ _ => False)
    (fun _ _ W W' row hs hg hr => hs.kept hg (fun r e => ⟨Nat.le_trans HN2.out.b.size (hr r e).1, (hr r e).2⟩)) (fun _ _ _ _ _ hs _ _ => hs) (fun _ _ _ _ => trivial) (fun _ _ => trivial) (fun _ W1 W hb _ hk => HN2.out.on (hb.trans (hk.mono hb.size)))
    (fun (_ : Unit) _ _ _ _ => False) (fun _ _ _ _ _ _ _ _ hs _ _ => hs) ?assign ?body ?done ?stop
  case assign =>
    rintro lo _ pre x Wc K _ hp _
    exact (pre_nil hp).elim
  case body =>
    rintro lo _ pre x a' W _ _ hp _
    exact (pre_nil hp).elim
  case done =>
    rintro D _ W hD H hK
    have e1 := H.b1.cell
    have HH := hid H
    clear H
    gi_wp2
    refine ⟨by simp, .inl ⟨_, _, rfl, run_takeDeferred hK, ?_⟩⟩
    have H2 := HH.out.kept (grownBy_putObj' W D (.deferred none)) (fun r e => by cases e; exact ⟨Nat.le_trans HN2.out.b.size hD, _, hK, rfl⟩)
    exact ⟨_, results_tmp rfl _ _ _, H2.b, _, _, rfl⟩
  case stop =>
    rintro D c pre W _ _ hf
    exact hf.elim
set_option maxRecDepth 100000 in
set_option maxHeartbeats 4000000 in
theorem links_nil_in (n : Nat) (hn : 3 ≤ n) (w : World) (hd m : Int) : CallsIn Fence.wide n Try.prog 33 #[.pointer none, .int .u64 hd, .int .i64 m] w fun e w' => Below w.heap.size w w' ∧ ∃ a c, e = .returned (.slice a 0 c) := by
  have h1 : 1 ≤ n := by omega
  obtain ⟨w1, hw1⟩ : ∃ w1, w1 = (w.alloc (.cells #[.int .i64 m] 3)).alloc (.cells #[.slice none 0 0] 77) := ⟨_, rfl⟩
  have hn1 : NlI w 3 77 (.int .i64 m) (.slice none 0 0) w1 := by rw [hw1]; exact NlI.new _ _ _ _ _
  have HN1 := hid hn1
  have HW1 := hid hw1
  clear hn1 hw1
  refine callsIn_of_wp_marks Try.func33 rfl trivial ?_ rfl
  simp only [Try.ntmps33, List.size_toArray, List.length_cons, List.length_nil, Nat.reduceAdd, Nat.reduceSub, Array.replicate_succ, Array.replicate_zero, List.push_toArray, List.append_toArray, List.nil_append, List.cons_append]
  have hq := seq2_not_nil
  gi_upto_region 2 with (fail)
  rw [← HW1.out]
  gi_wp2_with fail
  first
    | refine (callsIn_wide.2 (Links_nilh _ _)).mono ?_
    | refine ⟨trivial, (callsIn_wide.2 (Links_nilh _ _)).mono ?_⟩
    | refine ⟨trivial, (fun h => by cases h), (callsIn_wide.2 (Links_nilh _ _)).mono ?_⟩
  rintro e w2 ⟨rfl, hw2⟩
  have hb2 : Below w1.heap.size w1 w2 := by rw [hw2]; exact ((Below.refl _ _).alloc (Nat.le_refl _) _).alloc (by simp) _
  have hbx := NlI.new w1 24 34 (.pointer none) (.int .u64 hd)
  rw [← hw2] at hbx
  have HN2 := hid (HN1.out.on hb2)
  have HBX := hid hbx
  clear hb2 hbx hw2
  gi_wp2
  clear hq
  refine rangeFunc_x rfl h1 (gf := 68) (lb := #[.pointer (some ⟨w1.heap.size, 0, none⟩), .pointer (some ⟨w1.heap.size + 1, 0, none⟩)]) rfl trivial (enters_of Try.func68 (by kernel_rfl) rfl)
    (links_nil_tells (n - 1) _ _ hd w2 HBX.out.b0 HBX.out.b1) (fun _ _ _ h => h) (fun _ {A B C} _ _ => trivial) (fun _ _ _ _ _ _ _ _ _ => trivial) (fun _ => rfl)
    (fun (_ : Unit) _ W => NlI w 3 77 (.int .i64 m) (.slice none 0 0) W) (fun _ _ _ => False)
    (fun _ _ W W' row hs hg hr => hs.kept hg (fun r e => ⟨Nat.le_trans HN2.out.b.size (hr r e).1, (hr r e).2⟩)) (fun _ _ _ _ _ hs _ _ => hs) (fun _ _ _ _ => trivial) (fun _ _ => trivial) (fun _ W1 W hb _ hk => HN2.out.on (hb.trans (hk.mono hb.size)))
    (fun (_ : Unit) _ _ _ _ => False) (fun _ _ _ _ _ _ _ _ hs _ _ => hs) ?assign ?body ?done ?stop
  case assign =>
    rintro lo _ pre x Wc K _ hp _
    exact (pre_nil hp).elim
  case body =>
    rintro lo _ pre x a' W _ _ hp _
    exact (pre_nil hp).elim
  case done =>
    rintro D _ W hD H hK
    have e1 := H.b1.cell
    have HH := hid H
    clear H
    gi_wp2
    refine ⟨by simp, .inl ⟨_, _, rfl, run_takeDeferred hK, ?_⟩⟩
    have H2 := HH.out.kept (grownBy_putObj' W D (.deferred none)) (fun r e => by cases e; exact ⟨Nat.le_trans HN2.out.b.size hD, _, hK, rfl⟩)
    exact ⟨_, results_tmp rfl _ _ _, H2.b, _, _, rfl⟩
  case stop =>
    rintro D c pre W _ _ hf
    exact hf.elim
end
end Go.Proofs.Ytceokibalphgpaa
