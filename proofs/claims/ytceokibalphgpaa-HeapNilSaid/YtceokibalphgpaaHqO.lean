/-
  A heap that is none: its graph; the law's row of contracts.
-/
import Derived.Carry
import Derived.RegionIn
import Derived.Test.YtceokibalphgpaaHqN
namespace Go.Proofs.Ytceokibalphgpaa
open Go Go.ChangeShapes Go.WideShapes Go.ChangeAt Go.RowKit Go.Shelf

/-- Graph's own variables over a heap that is none. -/
structure GnI (w W : World) : Prop where
  b : Below w.heap.size w W
  g1 : W.heap[w.heap.size + 1]? = some (.cells #[.slice none 0 0, .slice none 0 0] 42 (0, 0))
  g2 : W.heap[w.heap.size + 2]? = some (.cells #[.slice none 0 0, .slice none 0 0] 42 (0, 0))
  l : Boxed W (w.heap.size + 3) 43 (.slice none 0 0)
theorem GnI.kept {w : World} {W W' : World} {row : Option Nat} (h : GnI w W) (hg : W.grownBy W' row) (hr : ∀ r, row = some r → w.heap.size ≤ r ∧ ∃ o : Obj, W.heap[r]? = some o ∧ o.isCells = false) : GnI w W' :=
  ⟨h.b.grown hg h.b.size (fun k e => (hr k e).1), heap_kept h.g1 hg (not_cells h.g1 (fun r e => (hr r e).2)), heap_kept h.g2 hg (not_cells h.g2 (fun r e => (hr r e).2)), h.l.kept hg (not_cells h.l (fun r e => (hr r e).2))⟩
theorem GnI.on {w : World} {W W' : World} (h : GnI w W) (hb : Below W.heap.size W W') : GnI w W' :=
  ⟨h.b.trans (hb.mono h.b.size), (hb.block _ (lt_of_heap h.g1)).trans h.g1, (hb.block _ (lt_of_heap h.g2)).trans h.g2, (hb.block _ h.l.lt).trans h.l⟩
theorem set_two0 {w : World} {b : Nat} {x y : Value} {T : TypeId} (h : w.heap[b]? = some (.cells #[x, y] T (0, 0))) (x' : Value) : (w.setCell ⟨b, 0, none⟩ x').heap[b]? = some (.cells #[x', y] T (0, 0)) := by
  rw [heap_setCell_same _ _ _ _ _ _ h]; rfl
theorem set_two {w : World} {b : Nat} {x y : Value} {T : TypeId} (h : w.heap[b]? = some (.cells #[x, y] T (0, 0))) (y' : Value) : (w.setCell ⟨b, 1, none⟩ y').heap[b]? = some (.cells #[x, y'] T (0, 0)) := by
  rw [heap_setCell_same _ _ _ _ _ _ h]; rfl
theorem gnI_new (w w1 : World) (hw1 : w1 = ((((((w.alloc (.cells #[.pointer none] 24)).alloc (.cells #[.slice none 0 0, .slice none 0 0] 42)).alloc (.cells #[.slice none 0 0, .slice none 0 0] 42)).alloc (.cells #[.slice none 0 0] 43)).alloc (.map #[] 0)).alloc (.cells #[.map (some (w.heap.size + 1 + 1 + 1 + 1))] 102))) : GnI w w1 ∧ Boxed w1 w.heap.size 24 (.pointer none) := by
  subst hw1
  have a0 := Boxed.new w 24 (.pointer none)
  obtain ⟨u1, e1⟩ : ∃ u, u = w.alloc (.cells #[.pointer none] 24) := ⟨_, rfl⟩
  have s1 : u1.heap.size = w.heap.size + 1 := by rw [e1]; simp
  have b1 : Below w.heap.size w u1 := by rw [e1]; exact (Below.refl _ _).alloc (Nat.le_refl _) _
  rw [← e1] at a0 ⊢
  have n2 := heap_alloc_new u1 (.cells #[.slice none 0 0, .slice none 0 0] 42)
  have a1 := a0.alloc (.cells #[.slice none 0 0, .slice none 0 0] 42)
  have b2 := b1.alloc (by omega) (.cells #[.slice none 0 0, .slice none 0 0] 42)
  obtain ⟨u2, e2⟩ : ∃ u, u = u1.alloc (.cells #[.slice none 0 0, .slice none 0 0] 42) := ⟨_, rfl⟩
  have s2 : u2.heap.size = w.heap.size + 2 := by rw [e2]; simp [s1]
  rw [← e2] at n2 a1 b2 ⊢
  have n3 := heap_alloc_new u2 (.cells #[.slice none 0 0, .slice none 0 0] 42)
  have a2 := a1.alloc (.cells #[.slice none 0 0, .slice none 0 0] 42)
  have b3 := b2.alloc (by omega) (.cells #[.slice none 0 0, .slice none 0 0] 42)
  have c3 := Below.refl u2.heap.size u2 |>.alloc (Nat.le_refl _) (.cells #[.slice none 0 0, .slice none 0 0] 42)
  obtain ⟨u3, e3⟩ : ∃ u, u = u2.alloc (.cells #[.slice none 0 0, .slice none 0 0] 42) := ⟨_, rfl⟩
  have s3 : u3.heap.size = w.heap.size + 3 := by rw [e3]; simp [s2]
  rw [← e3] at n3 a2 b3 c3 ⊢
  have m2 := (c3.block _ (by omega : u1.heap.size < u2.heap.size)).trans n2
  have n4 := Boxed.new u3 43 (.slice none 0 0)
  have c4 := Below.refl u3.heap.size u3 |>.alloc (Nat.le_refl _) (.cells #[.slice none 0 0] 43)
  obtain ⟨u4, e4⟩ : ∃ u, u = u3.alloc (.cells #[.slice none 0 0] 43) := ⟨_, rfl⟩
  have s4 : u4.heap.size = w.heap.size + 4 := by rw [e4]; simp [s3]
  rw [← e4] at n4 c4 ⊢
  have c5 := (Below.refl u4.heap.size u4 |>.alloc (Nat.le_refl _) (.map #[] 0)).alloc (by simp) (.cells #[.map (some (w.heap.size + 1 + 1 + 1 + 1))] 102)
  have c5' := c5.block _ n4.lt
  have c6 := (c4.block _ (by omega : u1.heap.size < u3.heap.size)).trans m2
  have c7 := (c4.block _ (by omega : u2.heap.size < u3.heap.size)).trans n3
  have c8 := (c4.block _ a2.lt).trans a2
  rw [s1] at c6
  rw [s2] at c7
  rw [s3] at n4 c5'
  exact ⟨⟨(b3.trans (c4.mono (by omega))).trans (c5.mono (by omega)), (c5.block _ (by omega)).trans c6, (c5.block _ (by omega)).trans c7, c5'.trans n4⟩, (c5.block _ (by omega)).trans c8⟩
section
attribute [local go_sem] Oper.semAt_some run_makeMap
set_option maxRecDepth 100000 in
set_option maxHeartbeats 8000000 in
theorem graph_nil_in (n : Nat) (hn : 3 ≤ n) (w : World) : CallsIn Fence.wide n Try.prog 17 #[.pointer none] w fun e w' => Below w.heap.size w w' ∧ ∃ a1 c1 a2 n2 c2 a3 c3, e = .returned (.tuple #[.agg #[.slice a1 0 c1, .slice a2 n2 c2], .slice a3 0 c3]) := by
  have h1 : 1 ≤ n := by omega
  obtain ⟨w1, hw1⟩ : ∃ w1, w1 = ((((((w.alloc (.cells #[.pointer none] 24)).alloc (.cells #[.slice none 0 0, .slice none 0 0] 42)).alloc (.cells #[.slice none 0 0, .slice none 0 0] 42)).alloc (.cells #[.slice none 0 0] 43)).alloc (.map #[] 0)).alloc (.cells #[.map (some (w.heap.size + 1 + 1 + 1 + 1))] 102)) := ⟨_, rfl⟩
  obtain ⟨hg1, hb0⟩ := gnI_new w w1 hw1
  have HG1 := hid hg1
  have d0 := hb0.cell
  have HW1 := hid hw1
  clear hg1 hw1
  refine callsIn_of_wp_marks Try.func17 rfl trivial ?_ rfl
  simp only [Try.ntmps17, List.size_toArray, List.length_cons, List.length_nil, Nat.reduceAdd, Nat.reduceSub, Array.replicate_succ, Array.replicate_zero, List.push_toArray, List.append_toArray, List.nil_append, List.cons_append]
  have hq := seq_not_nil
  gi_upto_region 4 with (fail)
  rw [← HW1.out]
  gi_wp2_with fail
  first
    | refine (callsIn_wide.2 (All_nilh _)).mono ?_
    | refine ⟨trivial, (callsIn_wide.2 (All_nilh _)).mono ?_⟩
    | refine ⟨trivial, (fun h => by cases h), (callsIn_wide.2 (All_nilh _)).mono ?_⟩
  rintro e w2 ⟨rfl, hw2⟩
  have hb2 : Below w1.heap.size w1 w2 := by rw [hw2]; exact (Below.refl _ _).alloc (Nat.le_refl _) _
  have hbx : Boxed w2 w1.heap.size 24 (.pointer none) := by rw [hw2]; exact Boxed.new _ _ _
  have HN2 := hid (HG1.out.on hb2)
  have HBX := hid hbx
  clear hb2 hbx hw2
  gi_wp2
  clear hq
  refine rangeFunc_x rfl h1 (gf := 60) (lb := #[.pointer (some ⟨w1.heap.size, 0, none⟩)]) rfl trivial (enters_of Try.func60 (by kernel_rfl) rfl)
    (all_nil_tells (n - 1) _ w2 HBX.out) (fun _ _ _ h => h) (fun _ {A B C} _ _ => trivial) (fun _ _ _ _ _ _ _ _ _ => trivial) (fun _ => rfl)
    (fun (_ : Unit) _ W => GnI w W) (fun _ _ _ => False)
    (fun _ _ W W' row hs hg hr => hs.kept hg (fun r e => ⟨Nat.le_trans HN2.out.b.size (hr r e).1, (hr r e).2⟩)) (fun _ _ _ _ _ hs _ _ => hs) (fun _ _ _ _ => trivial) (fun _ _ => trivial) (fun _ W1 W hb _ hk => HN2.out.on (hb.trans (hk.mono hb.size)))
    (fun (_ : Unit) _ _ _ _ => False) (fun _ _ _ _ _ _ _ _ hs _ _ => hs) ?assign ?body ?done ?stop
  case assign =>
    rintro lo _ pre x Wc K _ hp _
    exact (pre_nil hp).elim
  case body =>
    rintro lo _ pre x a' W _ _ hp _
    exact (pre_nil hp).elim
  case done =>
    rintro D _ W hD H hK
    have e1 := H.l.cell
    have HH := hid H
    clear H
    gi_wp2_with fail
    gi_loopw [35] (fun i wr => i = .int .i64 0 ∧ wr = W) (fun i _ => 1 - (intOf i).toNat)
    case atStart => exact ⟨rfl, rfl⟩
    case round =>
      obtain ⟨rfl, rfl⟩ := hrel
      gi_wp2_with fail
      have g1 := HH.out.g1
      have g2 := HH.out.g2
      have c10 : wr.cell? ⟨w.heap.size + 1, 0, none⟩ = some (.slice none 0 0) := by simp [World.cell?, g1]
      have c11 : wr.cell? ⟨w.heap.size + 1, 1, none⟩ = some (.slice none 0 0) := by simp [World.cell?, g1]
      have c20 : wr.cell? ⟨w.heap.size + 1 + 1, 0, none⟩ = some (.slice none 0 0) := by simp [World.cell?, g2]
      have c21 : wr.cell? ⟨w.heap.size + 1 + 1, 1, none⟩ = some (.slice none 0 0) := by simp [World.cell?, g2]
      have f10 : wr.frozen? ⟨w.heap.size + 1, 0, none⟩ = false := frozen_of_row wr _ _ _ _ g1
      have f11 : wr.frozen? ⟨w.heap.size + 1, 1, none⟩ = false := frozen_of_row wr _ _ _ _ g1
      gi_region
      gi_wp2_with fail
      obtain ⟨w4, hw4⟩ : ∃ w4, w4 = ((wr.setCell ⟨w.heap.size + 1, 0, none⟩ (.slice none 0 0)).setCell ⟨w.heap.size + 1, 1, none⟩ (.slice none 0 0)).drew := ⟨_, rfl⟩
      have hx : w4.heap[w.heap.size + 1]? = some (.cells #[.slice none 0 0, .slice none 0 0] 42 (0, 0)) := by rw [hw4]; exact set_two (set_two0 g1 _) _
      have hbw : Below w.heap.size w w4 := by rw [hw4]; exact ((HH.out.b.setCell (p := ⟨w.heap.size + 1, 0, none⟩) (by show w.heap.size ≤ w.heap.size + 1; omega) _).setCell (p := ⟨w.heap.size + 1, 1, none⟩) (by show w.heap.size ≤ w.heap.size + 1; omega) _).drew
      have hne : w.heap.size + 1 ≠ D := by have := lt_of_heap HN2.out.g1; omega
      have hkd : w4.heap[D]? = some (.deferred (some [])) := by rw [hw4]; exact ((Below.heap_setCell _ _ _ _ (by show D ≠ w.heap.size + 1; omega)).trans (Below.heap_setCell _ _ _ _ (by show D ≠ w.heap.size + 1; omega))).trans hK
      rw [← hw4]
      have hge := HN2.out.b.size
      clear hw4 hK e1 g1 g2 c10 c11 c20 c21 f10 f11
      refine ⟨by simp, .inl ⟨_, _, rfl, run_takeDeferred hkd, ?_⟩⟩
      have hx2 : (w4.putObj D (.deferred none)).heap[w.heap.size + 1]? = some (.cells #[.slice none 0 0, .slice none 0 0] 42 (0, 0)) := heap_kept hx (grownBy_putObj' w4 D (.deferred none)) (fun e => by cases e; exact absurd rfl hne)
      refine ⟨_, results_cell_tmp (p := 2) (q := 3) rfl _ _ _ _ _ _ _ rfl hx2 Try.underlying42 rfl (by kernel_rfl), hbw.grown (grownBy_putObj' w4 D (.deferred none)) hbw.size (fun k e => by cases e; omega), none, 0, none, 0, 0, none, 0, rfl⟩
  case stop =>
    rintro D c pre W _ _ hf
    exact hf.elim
end
theorem below_of_eq {w w' : World} (h : w = w') : Below w.heap.size w w' := by subst h; exact Below.refl _ _
theorem nilC (w0 : World) : NilC w0 where
  make := fun w slots outer _ _ _ => (Make_nil w slots outer).mono (by rintro e w' ⟨rfl, rfl⟩; exact ⟨Below.refl _ _, rfl⟩)
  up := fun w h _ _ => (Up_nil w h).mono (by rintro e w' ⟨rfl, rfl⟩; exact ⟨Below.refl _ _, _, rfl⟩)
  dn := fun w h _ _ => (Down_nil w h).mono (by rintro e w' ⟨rfl, rfl⟩; exact ⟨Below.refl _ _, _, _, rfl⟩)
  pu := fun w h slot x _ _ _ _ _ => (Put_nilh w h slot x).mono (by rintro e w' ⟨rfl, hb⟩; exact ⟨hb, _, _, rfl⟩)
  va := fun w h _ _ => (Value_nil w h).mono (by rintro e w' ⟨rfl, rfl⟩; exact ⟨Below.refl _ _, rfl⟩)
  wh := fun w h _ _ => (Whole_nil w h).mono (by rintro e w' ⟨rfl, rfl⟩; exact ⟨Below.refl _ _, _, rfl⟩)
  rm := fun w v l _ hv hl => (Remove_nil w v l hv hl).mono (by rintro e w' ⟨rfl, rfl⟩; exact ⟨Below.refl _ _, _, _, rfl⟩)
  gr := fun w _ => (callsIn_wide (n := 4)).1 (graph_nil_in 4 (by omega) w)
  st := fun w h n _ _ _ => (Store_nil w h n).mono (by rintro e w' ⟨rfl, rfl⟩; exact ⟨Below.refl _ _, rfl⟩)
  cn := fun w h _ _ => (Count_nil w h).mono (by rintro e w' ⟨rfl, rfl⟩; exact ⟨Below.refl _ _, rfl⟩)
  all := fun w m _ _ => (callsIn_wide (n := 4)).1 (all_nil_in 4 (by omega) w m)
  ln := fun w h m _ _ _ => (callsIn_wide (n := 4)).1 (links_nil_in 4 (by omega) w h m)
  awk := fun w hB => awake_by w0 w RpH (heapB w0) hB
end Go.Proofs.Ytceokibalphgpaa
