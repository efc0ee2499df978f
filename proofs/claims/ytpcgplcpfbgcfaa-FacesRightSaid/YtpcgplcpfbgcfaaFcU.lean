/-
  The contract of faces.Under.
-/
import Derived.Test.YtpcgplcpfbgcfaaFcC
import Derived.Test.YtpcgplcpfbgcfaaFcG
namespace Go.Proofs.Ytpcgplcpfbgcfaa
open Go Go.ChangeShapes Go.WideShapes Go.ChangeAt Go.RowKit Go.Shelf
attribute [local go_sem] Oper.semAt_some

/-- A row of marks. -/
def bl (bs : List Bool) : Array Value := (bs.map Value.bool).toArray
theorem bl_size (bs : List Bool) : (bl bs).size = bs.length := by simp [bl]
theorem bl_get {bs : List Bool} {k : Nat} {b : Bool} (h : bs[k]? = some b) : (bl bs)[k]? = some (.bool b) := by simp [bl, h]
theorem bl_set (bs : List Bool) (k : Nat) (b : Bool) : (bl bs).setIfInBounds k (.bool b) = bl (bs.set k b) := by simp [bl, List.map_set]
theorem info4 : (Try.prog.info? 4).map (fun i => (i.zero, i.size, i.bytes)) = some (some (.bool false), 1, 1) := by kernel_rfl
theorem made_bl (N : Nat) : madeCells #[.bool false] N = bl (List.replicate N false) := by
  unfold madeCells bl
  apply Array.ext
  · simp
  · intro i h1 h2
    simp
    rw [Nat.mod_one]; rfl
theorem make_bools (N : Nat) (hN : N ≤ 100000) (W : World) : (Instr.makeSlice 52 (.int .i64 (N : Int)) (.int .i64 (N : Int))).run Try.prog W = .ok (.slice (some ⟨W.heap.size, 0, none⟩) N N) (W.alloc (.cells (bl (List.replicate N false)) 4)) := by
  obtain ⟨i0, hi, hz0, hz1, hz2⟩ := info_parts info4
  have h := run_make (P := Try.prog) W 52 4 i0 (.bool false) Try.underlying52 hi hz0 .i64 .i64 (N : Int) (N : Int) (by omega) (Int.le_refl _) (by rw [hz2]; omega) (by omega)
  have e : (Value.bool false).cells = #[.bool false] := rfl
  rw [hz1, e, Int.toNat_natCast, Nat.mul_one, made_bl] at h
  exact h
/-- What has been marked when q places are over. -/
def marks (l : List Face) (g : List Int) (N q : Nat) : List Bool := (List.range N).map fun k => decide (k < q) && isUnder l g k
theorem marks_len (l : List Face) (g : List Int) (N q : Nat) : (marks l g N q).length = N := by simp [marks]
theorem marks_zero (l : List Face) (g : List Int) (N : Nat) : marks l g N 0 = List.replicate N false := by
  apply List.ext_getElem
  · simp [marks]
  · intro i h1 h2; simp [marks]
theorem marks_at {l : List Face} {g : List Int} {N q k : Nat} (hk : k < N) : (marks l g N q)[k]? = some (decide (k < q) && isUnder l g k) := by
  unfold marks
  rw [List.getElem?_map, List.getElem?_range hk]; rfl
theorem marks_no {l : List Face} {g : List Int} {N q : Nat} (h : isUnder l g q = false) : marks l g N (q + 1) = marks l g N q := by
  unfold marks
  refine List.map_congr_left fun k _ => ?_
  by_cases e : k = q
  · subst e; simp [h]
  · have : (k < q + 1) ↔ (k < q) := by omega
    simp [this]
theorem cell_one_at (w : World) (x : Value) (t : TypeId) (k : Nat) (hk : k = w.heap.size) : ∀ j u, [x][j]? = some u → (w.alloc (.cells #[x] t)).cell? ((⟨k, 0, none⟩ : Addr).add j) = some u := by
  subst hk; exact cell_one_new w x t
theorem marks_yes {l : List Face} {g : List Int} {N q : Nat} (h : isUnder l g q = true) (hq : q < N) : marks l g N (q + 1) = (marks l g N q).set q true := by
  apply List.ext_getElem?
  intro k
  by_cases hk : k < N
  · rw [marks_at hk]
    by_cases e : q = k
    · subst e
      rw [List.getElem?_set_self (by rw [marks_len]; exact hq)]
      simp [h]
    · rw [List.getElem?_set_ne e, marks_at hk]
      have : (k < q + 1) ↔ (k < q) := by omega
      simp [this]
  · rw [List.getElem?_eq_none (by rw [marks_len]; omega), List.getElem?_eq_none (by rw [List.length_set, marks_len]; omega)]
/-- Is this place of a line one of the Id, or marked? -/
def tst (l : List Face) (g : List Int) (N q : Nat) (y : Nat) : Bool := decide ((l[y]?.map Face.id) = some g) || ((marks l g N q)[y]?.getD false)
theorem tst_yes {l : List Face} {g : List Int} {N q x : Nat} (hN : N = l.length) (hx : x ∈ lineL l (q : Int)) (h : tst l g N q x = true) : isUnder l g q = true := by
  unfold tst at h
  rw [Bool.or_eq_true] at h
  unfold isUnder
  rw [List.any_eq_true]
  rcases h with h | h
  · exact ⟨x, hx, h⟩
  · rw [marks_at (by rw [hN]; exact (lineL_mem hx).1)] at h
    simp only [Option.getD_some, Bool.and_eq_true] at h
    have h2 := h.2
    unfold isUnder at h2
    rw [List.any_eq_true] at h2
    obtain ⟨y, hy, hy2⟩ := h2
    exact ⟨y, lineL_sub hx y hy, hy2⟩
theorem tst_all {l : List Face} {g : List Int} {N q : Nat} (h : ∀ y ∈ lineL l (q : Int), tst l g N q y = false) : isUnder l g q = false := by
  unfold isUnder
  rw [List.any_eq_false]
  intro y hy
  have := h y hy
  unfold tst at this
  rw [Bool.or_eq_false_iff] at this
  simpa using this.1
theorem tst_no {l : List Face} {g : List Int} {N q x : Nat} {pb : List Nat} (hN : N = l.length) (hp : pb ++ [x] <+: lineL l (q : Int)) (hx : x < q) (h : ∀ y ∈ pb ++ [x], tst l g N q y = false) : isUnder l g q = false := by
  obtain ⟨t, ht⟩ := hp
  have ht' : lineL l (q : Int) = pb ++ x :: t := by rw [← ht]; simp
  have hxl : x ∈ lineL l (q : Int) := by rw [ht']; simp
  have hxx := h x (by simp)
  unfold tst at hxx
  rw [Bool.or_eq_false_iff, marks_at (by rw [hN]; exact (lineL_mem hxl).1)] at hxx
  have hu : isUnder l g x = false := by have h2 := hxx.2; simpa [hx] using h2
  unfold isUnder at hu ⊢
  rw [List.any_eq_false] at hu ⊢
  intro y hy
  rw [ht'] at hy
  rcases List.mem_append.1 hy with hy | hy
  · have := h y (List.mem_append.2 (.inl hy))
    unfold tst at this
    rw [Bool.or_eq_false_iff] at this
    simpa using this.1
  · rw [← lineL_split ht'] at hy
    exact hu y hy
theorem tst_at {l : List Face} {g : List Int} {N q y : Nat} {f : Face} (hf : l[y]? = some f) (hy : y < N) : tst l g N q y = ((f.id == g) || (decide (y < q) && isUnder l g y)) := by
  unfold tst
  rw [hf, marks_at hy, Option.getD_some]
  congr 1
  by_cases h : f.id = g <;> simp [h]

/-- The mark of a range over a function among the deferred calls. -/
def mkD (D : Nat) : Deferred := { target := .collected D, args := #[] }
theorem leaves_marks {F : Fence} {n : Nat} {fn : Func} {tmps : Array Value} {R : Ending → World → Prop} : ∀ (Ds : List Nat) (W : World), Ds.Nodup → (∀ D ∈ Ds, W.heap[D]? = some (.deferred (some []))) →
    (∀ W', W'.os = W.os → W'.tape = W.tape → W'.output = W.output → W.heap.size ≤ W'.heap.size → (∀ k, k ∉ Ds → W'.heap[k]? = W.heap[k]?) → LeavesIn F n Try.prog fn tmps R [] .returning W') → LeavesInM F n Try.prog fn tmps R (Ds.map mkD) .returning W
  | [], W, _, _, h => h W rfl rfl rfl (Nat.le_refl _) (fun _ _ => rfl)
  | D :: Ds, W, hnd, hD, h => by
    have hD0 := hD D (by simp)
    have hn := List.nodup_cons.1 hnd
    refine ⟨by simp, .inl ⟨D, _, rfl, run_takeDeferred hD0, ?_⟩⟩
    have hg := grownBy_putObj' W D (.deferred none)
    refine leaves_marks Ds _ hn.2 (fun E hE => ?_) (fun W' h1 h2 h3 h4 h5 => ?_)
    · have hne : E ≠ D := fun e => hn.1 (by rw [← e]; exact hE)
      rw [World.putObj_heap_other hne]
      exact hD E (by simp [hE])
    · refine h W' (h1.trans hg.os) (h2.trans hg.tape) (h3.trans hg.output) (Nat.le_trans hg.size h4) (fun k hk => ?_)
      rw [h5 k (fun e => hk (by simp [e]))]
      exact World.putObj_heap_other (fun e => hk (by simp [e]))
/-- Under's things in memory. -/
structure UW (w : World) (sv : Value) (g : List Int) (ov : Value) (U : List Nat) (bs : List Bool) (N : Nat) (Ds : List Nat) (W : World) : Prop where
  b0 : Boxed W w.heap.size 22 sv
  b1 : W.heap[w.heap.size + 1]? = some (.cells (u8s g) 28 (0, 0))
  b2 : Boxed W (w.heap.size + 1 + 1) 32 ov
  b3 : W.heap[w.heap.size + 1 + 1 + 1]? = some (.cells (bl bs) 4 (0, 0))
  b4 : Boxed W (w.heap.size + 1 + 1 + 1 + 1) 52 (.slice (some ⟨w.heap.size + 1 + 1 + 1, 0, none⟩) N N)
  row : W.ownsRow (w.heap.size + 1 + 1 + 1 + 1 + 1) 3 1 ov U.length (pc U)
  below : Below w.heap.size w W
  nd : Ds.Nodup
  ds : ∀ D ∈ Ds, w.heap.size + 1 + 1 + 1 + 1 + 1 ≤ D ∧ W.heap[D]? = some (.deferred (some []))
theorem heap_kept {W W' : World} {row : Option Nat} {k : Nat} {o : Obj} (h : W.heap[k]? = some o) (hg : W.grownBy W' row) (hne : some k ≠ row) : W'.heap[k]? = some o := (hg.block k (Array.getElem?_eq_some_iff.1 h).1 hne).trans h
theorem UW.kept {w : World} {sv : Value} {g : List Int} {ov : Value} {U : List Nat} {bs : List Bool} {N : Nat} {Ds : List Nat} {W W' : World} {row : Option Nat} (h : UW w sv g ov U bs N Ds W) (hg : W.grownBy W' row) (hr : ∀ r, row = some r → w.heap.size ≤ r ∧ (∃ o : Obj, W.heap[r]? = some o ∧ o.isCells = false) ∧ r ∉ Ds) : UW w sv g ov U bs N Ds W' :=
  have hr' := fun r e => (hr r e).2.1
  ⟨h.b0.kept hg (not_cells h.b0 hr'), heap_kept h.b1 hg (not_cells h.b1 hr'), h.b2.kept hg (not_cells h.b2 hr'), heap_kept h.b3 hg (not_cells h.b3 hr'), h.b4.kept hg (not_cells h.b4 hr'), owns_not_cells h.row hg hr', h.below.grown hg h.below.size (fun k e => (hr k e).1),
    h.nd, fun D hD => ⟨(h.ds D hD).1, heap_kept (h.ds D hD).2 hg (fun e => (hr D e.symm).2.2 hD)⟩⟩
theorem UW.alloc {w : World} {sv : Value} {g : List Int} {ov : Value} {U : List Nat} {bs : List Bool} {N : Nat} {Ds : List Nat} {W : World} (h : UW w sv g ov U bs N Ds W) (o : Obj) : UW w sv g ov U bs N Ds (W.alloc o) := h.kept (World.grownBy_alloc W o none) (fun r e => by cases e)
theorem UW.drew {w : World} {sv : Value} {g : List Int} {ov : Value} {U : List Nat} {bs : List Bool} {N : Nat} {Ds : List Nat} {W : World} (h : UW w sv g ov U bs N Ds W) : UW w sv g ov U bs N Ds W.drew := h.kept (row := none) ⟨rfl, rfl, rfl, Nat.le_refl _, fun _ _ _ => rfl⟩ (fun r e => by cases e)
theorem UW.mark {w : World} {sv : Value} {g : List Int} {ov : Value} {U : List Nat} {bs : List Bool} {N : Nat} {Ds : List Nat} {W : World} (h : UW w sv g ov U bs N Ds W) (q : Nat) : UW w sv g ov U (bs.set q true) N Ds (W.setCell ⟨w.heap.size + 1 + 1 + 1, q, none⟩ (.bool true)) := by
  have hg : W.grownBy (W.setCell ⟨w.heap.size + 1 + 1 + 1, q, none⟩ (.bool true)) (some (w.heap.size + 1 + 1 + 1)) := ⟨rfl, rfl, rfl, by simp, fun k _ hk => Below.heap_setCell _ _ _ k (fun e => hk (by rw [e]))⟩
  have hx : ∀ k, k ≠ w.heap.size + 1 + 1 + 1 → some k ≠ some (w.heap.size + 1 + 1 + 1) := fun k hk e => hk (Option.some.inj e)
  refine ⟨h.b0.kept hg (hx _ (by omega)), heap_kept h.b1 hg (hx _ (by omega)), h.b2.kept hg (hx _ (by omega)), ?_, h.b4.kept hg (hx _ (by omega)), h.row.kept hg (.inr (fun e => by have := (h.row.lt _ e).1; omega)), h.below.setCell (p := ⟨w.heap.size + 1 + 1 + 1, q, none⟩) (by simp; omega) _, h.nd, fun D hD => ⟨(h.ds D hD).1, heap_kept (h.ds D hD).2 hg (hx D (by have := (h.ds D hD).1; omega))⟩⟩
  have := heap_setCell_same W (w.heap.size + 1 + 1 + 1) q _ 4 (.bool true) h.b3
  rw [bl_set] at this
  exact this
theorem UW.push {w : World} {sv : Value} {g : List Int} {ov : Value} {U : List Nat} {bs : List Bool} {N : Nat} {Ds : List Nat} {W w1 : World} {v' : Value} {tmp : Obj} {q : Nat} (h : UW w sv g ov U bs N Ds W)
    (hown' : w1.ownsRow (w.heap.size + 1 + 1 + 1 + 1 + 1) 3 1 v' (U.length + 1) (pc U ++ [.int .i64 (q : Int)])) (hgrow : (W.alloc tmp).grownBy w1 ov.ownBlock) :
    UW w sv g v' (U ++ [q]) bs N Ds (w1.setCell ⟨w.heap.size + 1 + 1, 0, none⟩ v') ∧ KeepsOthers W (w1.setCell ⟨w.heap.size + 1 + 1, 0, none⟩ v') ∧ Boxed w1 (w.heap.size + 1 + 1) 32 ov := by
  obtain ⟨p1, p2, p3, p4, p5, p6, p7⟩ := box_push h.b2 (by decide) h.row hown' hgrow
  have hlt := h.b4.lt
  have key : ∀ (k : Nat) (o : Obj), W.heap[k]? = some o → k < w.heap.size + 1 + 1 + 1 + 1 + 1 → k ≠ w.heap.size + 1 + 1 → (w1.setCell ⟨w.heap.size + 1 + 1, 0, none⟩ v').heap[k]? = some o := fun k o ho h1 h2 => by
    rw [Below.heap_setCell _ _ _ _ (by simpa using h2)]
    have hk := (Array.getElem?_eq_some_iff.1 ho).1
    rw [hgrow.block k (by simp; omega) (fun e => by have := (h.row.lt k e.symm).1; omega), Below.heap_alloc _ _ _ hk]
    exact ho
  refine ⟨⟨p7 _ _ _ h.b0 (by omega) (by omega), key _ _ h.b1 (by omega) (by omega), p2, key _ _ h.b3 (by omega) (by omega), p7 _ _ _ h.b4 (by omega) (by omega), ?_, h.below.trans (p6 _ (by omega) (by omega) h.below.size), h.nd, fun D hD => ⟨(h.ds D hD).1, p4.same D _ (h.ds D hD).2 rfl⟩⟩, p4, p1⟩
  rw [List.length_append, pc_app]
  exact p3
theorem UW.mk0 {w : World} {sv : Value} {g : List Int} {ov : Value} {U : List Nat} {bs : List Bool} {N : Nat} {Ds : List Nat} {W : World} (h : UW w sv g ov U bs N Ds W) {k : Nat} {b : Bool} (hk : bs[k]? = some b) : W.cell? ⟨w.heap.size + 1 + 1 + 1, k, none⟩ = some (.bool b) ∧ W.frozen? ⟨w.heap.size + 1 + 1 + 1, k, none⟩ = false := by
  refine ⟨(cell_of_row _ _ k _ _ _ h.b3).trans (bl_get hk), ?_⟩
  simp [World.frozen?, h.b3]
theorem UW.idc {w : World} {sv : Value} {g : List Int} {ov : Value} {U : List Nat} {bs : List Bool} {N : Nat} {Ds : List Nat} {W : World} (h : UW w sv g ov U bs N Ds W) : AtL W (w.heap.size + 1) 0 (u8s g).toList := fun j v hv => by
  rw [Nat.zero_add, cell_of_row _ _ j _ _ _ h.b1]
  simpa using hv
/-- Between two rounds of the inner loop. -/
def UI (w : World) (sv : Value) (g : List Int) (ov : Value) (l : List Face) (q N : Nat) (Ds : List Nat) (Bx : Nat) (pre : List Nat) (W : World) : Prop :=
  UW w sv g ov (underL l g q) (marks l g N q) N Ds W ∧ Boxed W Bx 3 (.int .i64 (q : Int)) ∧ ∀ y ∈ pre, tst l g N q y = false ∧ q ≤ y
def UX (w : World) (sv : Value) (g : List Int) (ov : Value) (l : List Face) (q N : Nat) (Ds : List Nat) (c : Code) (pre : List Nat) (W : World) : Prop :=
  c = .exit 1 ∧ ((∃ pb x, pre = pb ++ [x] ∧ tst l g N q x = true ∧ ∃ ov', UW w sv g ov' (underL l g q ++ [q]) ((marks l g N q).set q true) N Ds W) ∨ (∃ pb x, pre = pb ++ [x] ∧ (∀ y ∈ pb ++ [x], tst l g N q y = false) ∧ x < q ∧ UW w sv g ov (underL l g q) (marks l g N q) N Ds W))
set_option maxRecDepth 100000 in
set_option maxHeartbeats 4000000 in
theorem Under_in (n : Nat) (hn : 7 ≤ n) (w : World) (ad : Option Addr) (N cap : Nat) (l : List Face) (g : List Int) (hg : g.length = 16) (hF : FRow w w.heap.size ad l) (hN : N = l.length) (hN2 : N ≤ 100000) :
    CallsIn Fence.wide n Try.prog 19 #[.slice ad N cap, .agg (u8s g)] w (SeqPost w (underL l g N)) := by
  have h1 : 1 ≤ n := by omega
  have HF := hid hF
  have HN := hid hN
  have HG := hid hg
  obtain ⟨i0, hi, hz0, hz1, hz2⟩ := info_parts info3
  clear hF hN hg
  refine callsIn_of_wp_marks Try.func19 rfl trivial ?_ rfl
  simp only [Try.ntmps19, List.size_toArray, List.length_cons, List.length_nil, Nat.reduceAdd, Nat.reduceSub, Array.replicate_succ, Array.replicate_zero, List.push_toArray, List.append_toArray, List.nil_append, List.cons_append]
  have hmk := make_bools N hN2
  gi_wp2
  refine wpIn_scope ?_
  gi_wp2
  refine wpIn_label ?_
  clear hmk
  gi_wp2
  have hB0 : Below w.heap.size w (((((w.alloc (.cells #[.slice ad N cap] 22)).alloc (.cells (u8s g) 28)).alloc (.cells #[.slice none 0 0] 32)).alloc (.cells (bl (List.replicate N false)) 4)).alloc (.cells #[.slice (some ⟨w.heap.size + 1 + 1 + 1, 0, none⟩) N N] 52)) :=
    (((((Below.refl _ w).alloc (Nat.le_refl _) _).alloc (by simp) _).alloc (by simp; omega) _).alloc (by simp; omega) _).alloc (by simp; omega) _
  have hU0 : UW w (.slice ad N cap) g (.slice none 0 0) (underL l g 0) (marks l g N 0) N [] (((((w.alloc (.cells #[.slice ad N cap] 22)).alloc (.cells (u8s g) 28)).alloc (.cells #[.slice none 0 0] 32)).alloc (.cells (bl (List.replicate N false)) 4)).alloc (.cells #[.slice (some ⟨w.heap.size + 1 + 1 + 1, 0, none⟩) N N] 52)) := by
    have b0 := ((((Boxed.new w 22 (.slice ad N cap)).alloc (.cells (u8s g) 28)).alloc (.cells #[.slice none 0 0] 32)).alloc (.cells (bl (List.replicate N false)) 4)).alloc (.cells #[.slice (some ⟨w.heap.size + 1 + 1 + 1, 0, none⟩) N N] 52)
    have b2 := ((Boxed.new ((w.alloc (.cells #[.slice ad N cap] 22)).alloc (.cells (u8s g) 28)) 32 (.slice none 0 0)).alloc (.cells (bl (List.replicate N false)) 4)).alloc (.cells #[.slice (some ⟨w.heap.size + 1 + 1 + 1, 0, none⟩) N N] 52)
    have b4 := Boxed.new ((((w.alloc (.cells #[.slice ad N cap] 22)).alloc (.cells (u8s g) 28)).alloc (.cells #[.slice none 0 0] 32)).alloc (.cells (bl (List.replicate N false)) 4)) 52 (.slice (some ⟨w.heap.size + 1 + 1 + 1, 0, none⟩) N N)
    have b1 := heap_alloc_new (w.alloc (.cells #[.slice ad N cap] 22)) (.cells (u8s g) 28)
    have b3 := heap_alloc_new (((w.alloc (.cells #[.slice ad N cap] 22)).alloc (.cells (u8s g) 28)).alloc (.cells #[.slice none 0 0] 32)) (.cells (bl (List.replicate N false)) 4)
    simp only [World.size_alloc] at b1 b2 b3 b4
    refine ⟨b0, ?_, b2, ?_, b4, World.ownsRow_nil _ _ _ _, hB0, List.nodup_nil, fun D hD => by cases hD⟩
    · rw [Below.heap_alloc _ _ _ (by simp), Below.heap_alloc _ _ _ (by simp), Below.heap_alloc _ _ _ (by simp)]; exact b1
    · rw [Below.heap_alloc _ _ _ (by simp), marks_zero]; exact b3
  obtain ⟨W0, hw0⟩ : ∃ W0, W0 = (((((w.alloc (.cells #[.slice ad N cap] 22)).alloc (.cells (u8s g) 28)).alloc (.cells #[.slice none 0 0] 32)).alloc (.cells (bl (List.replicate N false)) 4)).alloc (.cells #[.slice (some ⟨w.heap.size + 1 + 1 + 1, 0, none⟩) N N] 52)) := ⟨_, rfl⟩
  rw [← hw0] at hU0 ⊢
  have HU0 := hid hU0
  clear hU0 hw0 hB0
  refine wpIn_loop (fun a' w' => ∃ (q : Nat) (ov : Value) (Ds : List Nat) (u7 u15 u16 u17 u18 u19 u44 : Value), q ≤ N ∧ RowKit.Hid (UW w (.slice ad N cap) g ov (underL l g q) (marks l g N q) N Ds w') ∧ a' = { tmps := #[.slice ad N cap, .agg (u8s g), .pointer (some ⟨w.heap.size, 0, none⟩), .pointer (some ⟨w.heap.size + 1, 0, none⟩), .slice none 0 0, .pointer (some ⟨w.heap.size + 1 + 1, 0, none⟩), .pointer (some ⟨w.heap.size + 1 + 1 + 1 + 1, 0, none⟩), u7, undef, .slice ad N cap, .int .i64 (N : Int), .slice (some ⟨w.heap.size + 1 + 1 + 1, 0, none⟩) N N, .slice ad N cap, .int .i64 (N : Int), .int .i64 (q : Int), u15, u16, u17, u18, u19, undef, undef, undef, undef, undef, undef, undef, undef, undef, undef, undef, undef, undef, undef, undef, undef, undef, undef, undef, undef, undef, undef, undef, undef, u44, undef], defers := Ds.map mkD }) (fun a' _ => N - (intOf (a'.tmps.getD 14 undef)).toNat) ⟨0, _, [], _, _, _, _, _, _, _, Nat.zero_le _, HU0, rfl⟩ ?_
  rintro a' wr ⟨q, ov, Ds, u7, u15, u16, u17, u18, u19, u44, hq, HU, rfl⟩
  clear HU0
  by_cases hql : q < N
  · have c0 := (HU.out.alloc (.cells #[.int .i64 (q : Int)] 3)).b0.cell
    have hsz5 : w.heap.size + 1 + 1 + 1 + 1 < wr.heap.size := HU.out.b4.lt
    gi_wp2
    first
      | refine (callsIn_wide.2 (line_any _ _ _ _ _)).mono ?_
      | refine ⟨trivial, (callsIn_wide.2 (line_any _ _ _ _ _)).mono ?_⟩
      | refine ⟨trivial, (fun h => by cases h), (callsIn_wide.2 (line_any _ _ _ _ _)).mono ?_⟩
    rintro e w' ⟨rfl, rfl⟩
    gi_wp2
    obtain ⟨b, o, rfl, hb⟩ := HF.out.some (by have := HN.out; omega)
    have bN := ((Boxed.new (wr.alloc (.cells #[.int .i64 (q : Int)] 3)) 22 (.slice (some ⟨b, o, none⟩) N cap)).alloc (.cells #[.int .i64 (q : Int)] 3))
    have bM := Boxed.new ((wr.alloc (.cells #[.int .i64 (q : Int)] 3)).alloc (.cells #[.slice (some ⟨b, o, none⟩) N cap] 22)) 3 (.int .i64 (q : Int))
    have bX := ((Boxed.new wr 3 (.int .i64 (q : Int))).alloc (.cells #[.slice (some ⟨b, o, none⟩) N cap] 22)).alloc (.cells #[.int .i64 (q : Int)] 3)
    simp only [World.size_alloc] at bN bM
    have hUl := ((HU.out.alloc (.cells #[.int .i64 (q : Int)] 3)).alloc (.cells #[.slice (some ⟨b, o, none⟩) N cap] 22)).alloc (.cells #[.int .i64 (q : Int)] 3)
    have hst := line_stops (n - 1) _ _ cap w.heap.size N (fun _ => True) _ l (q : Int) _ bM bN (HF.out.below hUl.below) HN.out (by simp; omega) (fun _ _ => trivial) trivial
    have hdl : ∀ D ∈ Ds, D < wr.heap.size := fun D hD => (Array.getElem?_eq_some_iff.1 (HU.out.ds D hD).2).1
    have hszl : wr.heap.size + 2 < (((wr.alloc (.cells #[.int .i64 (q : Int)] 3)).alloc (.cells #[.slice (some ⟨b, o, none⟩) N cap] 22)).alloc (.cells #[.int .i64 (q : Int)] 3)).heap.size := by simp
    obtain ⟨Wl, hWl⟩ : ∃ Wl, Wl = (((wr.alloc (.cells #[.int .i64 (q : Int)] 3)).alloc (.cells #[.slice (some ⟨b, o, none⟩) N cap] 22)).alloc (.cells #[.int .i64 (q : Int)] 3)) := ⟨_, rfl⟩
    rw [← hWl] at hst hUl bX hszl ⊢
    have HST := hid hst
    have HUL := hid hUl
    have HBL := hid bX
    have HDL := hid hdl
    clear hst hUl bN bM bX hWl c0 hdl
    have hUI0 : UI w (.slice (some ⟨b, o, none⟩) N cap) g ov l q N Ds wr.heap.size (vals ([] : List (Pl l (q : Int)))) Wl := ⟨HUL.out, HBL.out, fun y hy => by simp [vals] at hy⟩
    refine wpIn_rangeFunc_ownF rfl h1 (gf := 32) (lb := #[.pointer (some ⟨wr.heap.size + 1 + 1, 0, none⟩), .pointer (some ⟨wr.heap.size + 1, 0, none⟩)]) rfl trivial (enters_of Try.func32 (by kernel_rfl) rfl)
      HST.out (fun h k => h.t k) (fun W l o o' _ h2 h3 _ => KS.b _ W l o o' h2 h3) (Below.refl _ _) (fun _ => rfl)
      (fun pre W => UI w (.slice (some ⟨b, o, none⟩) N cap) g ov l q N Ds wr.heap.size (vals pre) W) (fun c pre W => UX w (.slice (some ⟨b, o, none⟩) N cap) g ov l q N Ds c (vals pre) W)
      (fun _ _ _ _ ⟨h, h2, h3⟩ hg hr => ⟨h.kept hg (fun r e => ⟨by have := (hr r e).1; omega, (hr r e).2, fun hD => by have := (hr r e).1; have := HDL.out r hD; omega⟩), h2.kept hg (not_cells h2 (fun r e => (hr r e).2)), h3⟩)
      (fun _ _ _ _ _ h hg hr => by
        have key : ∀ {ov' : Value} {U : List Nat} {bs : List Bool} {W W' : World} {row : Option Nat}, UW w (.slice (some ⟨b, o, none⟩) N cap) g ov' U bs N Ds W → W.grownBy W' row → (∀ r, row = some r → Wl.heap.size ≤ r ∧ ∃ o : Obj, W.heap[r]? = some o ∧ o.isCells = false) → UW w (.slice (some ⟨b, o, none⟩) N cap) g ov' U bs N Ds W' :=
          fun h hg hr => h.kept hg (fun r e => ⟨by have := (hr r e).1; omega, (hr r e).2, fun hD => by have := (hr r e).1; have := HDL.out r hD; omega⟩)
        rcases h with ⟨q1, ⟨pb, y, q2, q3, ov', q4⟩ | ⟨pb, y, q2, q3, q4, q5⟩⟩
        · exact ⟨q1, .inl ⟨pb, y, q2, q3, ov', key q4 hg hr⟩⟩
        · exact ⟨q1, .inr ⟨pb, y, q2, q3, q4, key q5 hg hr⟩⟩)
      hUI0
      (fun x => { tmps := #[.slice (some ⟨b, o, none⟩) N cap, .agg (u8s g), .pointer (some ⟨w.heap.size, 0, none⟩), .pointer (some ⟨w.heap.size + 1, 0, none⟩), .slice none 0 0, .pointer (some ⟨w.heap.size + 1 + 1, 0, none⟩), .pointer (some ⟨w.heap.size + 1 + 1 + 1 + 1, 0, none⟩), .pointer (some ⟨wr.heap.size, 0, none⟩), .int .i64 (x.1 : Int), .slice (some ⟨b, o, none⟩) N cap, .int .i64 (N : Int), .slice (some ⟨w.heap.size + 1 + 1 + 1, 0, none⟩) N N, .slice (some ⟨b, o, none⟩) N cap, .int .i64 (N : Int), .int .i64 (q : Int), .bool true, .int .i64 (q : Int), .slice (some ⟨b, o, none⟩) N cap, .int .i64 (q : Int), .func (.func 32) #[] #[.pointer (some ⟨wr.heap.size + 1 + 1, 0, none⟩), .pointer (some ⟨wr.heap.size + 1, 0, none⟩)], .int .i64 (x.1 : Int), undef, undef, undef, undef, undef, undef, undef, undef, undef, undef, undef, undef, undef, undef, undef, undef, undef, undef, undef, undef, undef, undef, undef, u44, undef], defers := [] }) ?assign ?body ?done ?stop
    case assign =>
      intro lp x W K hK
      gi_wp2
      exact hK
    case body =>
      rintro lp pre x W ⟨hUW, hBX, hpre⟩ hlen2
      have hxl := lineL_mem x.2
      have hf : l[x.1]? = some l[x.1] := List.getElem?_eq_getElem hxl.1
      generalize l[x.1]'hxl.1 = f at hf
      have hfi := (HF.out.len f (List.mem_of_getElem? hf))
      have hxN : x.1 < N := by have := HN.out; omega
      have hxq : x.1 ≤ q := by have := hxl.2; omega
      have htst := tst_at (g := g) (q := q) hf hxN
      obtain ⟨m, hm⟩ : ∃ m, m = (decide (x.1 < q) && isUnder l g x.1) := ⟨_, rfl⟩
      rw [← hm] at htst
      have hmk := hUW.mk0 (marks_at (l := l) (g := g) (q := q) hxN)
      rw [← hm] at hmk
      have hS : W.drew.cell? ⟨w.heap.size, 0, none⟩ = some (.slice (some ⟨b, o, none⟩) N cap) ∧ AtL W.drew b (o + x.1 * 17) (u8s f.id).toList ∧ AtL W.drew (w.heap.size + 1) 0 (u8s g).toList ∧ W.drew.cell? ⟨w.heap.size + 1 + 1 + 1 + 1, 0, none⟩ = some (.slice (some ⟨w.heap.size + 1 + 1 + 1, 0, none⟩) N N) ∧ W.drew.cell? ⟨w.heap.size + 1 + 1 + 1, x.1, none⟩ = some (.bool m) :=
        ⟨hUW.drew.b0.cell, (HF.out.below hUW.drew.below).id hf, hUW.drew.idc, hUW.drew.b4.cell, hmk.1⟩
      have HS := hid hS
      have HUW := hid hUW
      have HBX := hid hBX
      have HPRE := hid hpre
      have HFI := hid hfi
      have HT := hid htst
      have HQ := hid hxq
      obtain ⟨va, vk, hov⟩ := own_form hUW.row
      have he := fun W => eq28 f.id g HFI.out HG.out W
      have hgd := guard28
      have hbxx := hBX.lt
      have hxc := hBX.cell
      clear hS hUW hBX hpre hfi htst hm hmk hf hxl hxq
      by_cases hid1 : f.id = g
      · have q1 : (f.id == g) = true := by simpa using hid1
        rw [q1] at he
        have ht : tst l g N q x.1 = true := by rw [HT.out, q1]; rfl
        have HTT := hid ht
        clear hid1 q1 ht
        subst hov
        gi_wp2
        refine R.wp_region_mix [1, 0, 0, 0, 1, 1, 0, 0, 1, 0, 0, 1, 0] (fun W'' => W''.cell? ⟨w.heap.size, 0, none⟩ = some (.slice (some ⟨b, o, none⟩) N cap) ∧ AtL W'' b (o + x.1 * 17) (u8s f.id).toList ∧ AtL W'' (w.heap.size + 1) 0 (u8s g).toList ∧ W''.cell? ⟨w.heap.size + 1 + 1 + 1 + 1, 0, none⟩ = some (.slice (some ⟨w.heap.size + 1 + 1 + 1, 0, none⟩) N N) ∧ W''.cell? ⟨w.heap.size + 1 + 1 + 1, x.1, none⟩ = some (.bool m)) (by kernel_rfl) (by kernel_rfl) HS.out ?_
        repeat (first
          | (refine' E.wpMix_not (by decide) rfl _; simp only [Act.put, List.setIfInBounds_toArray, List.set_cons_zero, List.set_cons_succ])
          | (refine E.wpMix_read _ rfl rfl (fun W'' hS => load_id rfl rfl hS.2.1 HFI.out) ?_; simp only [Act.put, List.setIfInBounds_toArray, List.set_cons_zero, List.set_cons_succ])
          | (refine E.wpMix_read _ rfl rfl (fun W'' hS => load_id rfl rfl hS.2.2.1 HG.out) ?_; simp only [Act.put, List.setIfInBounds_toArray, List.set_cons_zero, List.set_cons_succ])
          | (refine' E.wpMix_read _ rfl rfl _ _; rotate_left; (solve | (rintro W'' ⟨h1, h2, h3, h4, h5⟩; go_simp) | (rintro W'' ⟨h1, h2, h3, h4, h5⟩; go_simp; with_reducible rfl)); simp only [Act.put, List.setIfInBounds_toArray, List.set_cons_zero, List.set_cons_succ])
          | (refine' E.wpMix_value _ rfl rfl _ _; rotate_left; (solve | (intro W''; go_simp) | (intro W''; go_simp; with_reducible rfl)); simp only [Act.put, List.setIfInBounds_toArray, List.set_cons_zero, List.set_cons_succ]))
        refine E.wpMix_end ?_
        obtain ⟨W4, hW4⟩ : ∃ W4, W4 = W.drew := ⟨_, rfl⟩
        have hU4 : UW w (.slice (some ⟨b, o, none⟩) N cap) g (.slice va (underL l g q).length vk) (underL l g q) (marks l g N q) N Ds W4 := by rw [hW4]; exact HUW.out.drew
        have hX4 : Boxed W4 wr.heap.size 3 (.int .i64 (q : Int)) := by rw [hW4]; exact HBX.out
        have hko : KeepsOthers W W4 := by rw [hW4]; exact KeepsOthers.drew _
        rw [← hW4]
        clear hW4
        have hM4 := hU4.mark q
        have hX5 := hX4.kept (W' := W4.setCell ⟨w.heap.size + 1 + 1 + 1, q, none⟩ (.bool true)) (row := some (w.heap.size + 1 + 1 + 1)) ⟨rfl, rfl, rfl, by simp, fun k _ hk => Below.heap_setCell _ _ _ k (fun e => hk (by rw [e]))⟩ (fun e => by have := Option.some.inj e; omega)
        have z1 := hU4.b4.cell
        have z2 := hX4.cell
        obtain ⟨z3, z4⟩ := hU4.mk0 (marks_at hql)
        have z5 := hU4.b2.cell
        have hko2 : KeepsOthers W4 (W4.setCell ⟨w.heap.size + 1 + 1 + 1, q, none⟩ (.bool true)) := KeepsOthers.setCell _ _ _
        have hne1 : ¬ wr.heap.size = w.heap.size + 1 + 1 + 1 := by omega
        have hne2 : ¬ w.heap.size + 1 + 1 + 1 = wr.heap.size := by omega
        have hrow := hM4.row
        have hul : (underL l g q).length ≤ q := by have := List.length_filter_le (isUnder l g) (List.range q); simpa [underL] using this
        have HU4 := hid hU4
        have HM4 := hid hM4
        have HK := hid (hko.trans hko2)
        clear hU4 hX4 hko hko2
        gi_wp2_with (first
          | (gi_at_builtin; refine wpListIn_append_own _ rfl _ _ 32 rfl (w.heap.size + 1 + 1 + 1 + 1 + 1) 3 i0 (.int .i64 0) 1 8 Try.underlying32 hi hz0 hz1 hz2 rfl (by decide) _ _ _ rfl (hrow.alloc _) ⟨W4.heap.size, 0, none⟩ 1 1 [.int .i64 (q : Int)] rfl rfl (cell_one_at _ _ _ W4.heap.size (by simp)) (by simp [Value.oneCell']) (by simp only [maxLen]; omega) (by omega) (by have := hM4.b4.lt; simp at this; simp; omega) ?_; intro v' w1 hown' hgrow _; obtain ⟨g', cap', rfl⟩ := ownsRow_succ hown'; obtain ⟨p1, p2, p3⟩ := hM4.push hown' hgrow; have hc1 := p3.cell; have hf1 := p3.frozen))
        refine ⟨HK.out.trans p2, rfl, .inl ⟨vals pre, x.1, vals_app _ _, HTT.out, _, p1⟩⟩
      · have q1 : (f.id == g) = false := by simpa using hid1
        rw [q1] at he
        have ht : tst l g N q x.1 = m := by rw [HT.out, q1]; rfl
        have HTT := hid ht
        clear hid1 q1 ht
        cases m with
        | true =>
          subst hov
          gi_wp2
          refine R.wp_region_mix [1, 0, 0, 0, 1, 1, 0, 0, 1, 0, 0, 1, 0] (fun W'' => W''.cell? ⟨w.heap.size, 0, none⟩ = some (.slice (some ⟨b, o, none⟩) N cap) ∧ AtL W'' b (o + x.1 * 17) (u8s f.id).toList ∧ AtL W'' (w.heap.size + 1) 0 (u8s g).toList ∧ W''.cell? ⟨w.heap.size + 1 + 1 + 1 + 1, 0, none⟩ = some (.slice (some ⟨w.heap.size + 1 + 1 + 1, 0, none⟩) N N) ∧ W''.cell? ⟨w.heap.size + 1 + 1 + 1, x.1, none⟩ = some (.bool true)) (by kernel_rfl) (by kernel_rfl) HS.out ?_
          repeat (first
            | (refine' E.wpMix_not (by decide) rfl _; simp only [Act.put, List.setIfInBounds_toArray, List.set_cons_zero, List.set_cons_succ])
            | (refine E.wpMix_read _ rfl rfl (fun W'' hS => load_id rfl rfl hS.2.1 HFI.out) ?_; simp only [Act.put, List.setIfInBounds_toArray, List.set_cons_zero, List.set_cons_succ])
            | (refine E.wpMix_read _ rfl rfl (fun W'' hS => load_id rfl rfl hS.2.2.1 HG.out) ?_; simp only [Act.put, List.setIfInBounds_toArray, List.set_cons_zero, List.set_cons_succ])
            | (refine' E.wpMix_read _ rfl rfl _ _; rotate_left; (solve | (rintro W'' ⟨h1, h2, h3, h4, h5⟩; go_simp) | (rintro W'' ⟨h1, h2, h3, h4, h5⟩; go_simp; with_reducible rfl)); simp only [Act.put, List.setIfInBounds_toArray, List.set_cons_zero, List.set_cons_succ])
            | (refine' E.wpMix_value _ rfl rfl _ _; rotate_left; (solve | (intro W''; go_simp) | (intro W''; go_simp; with_reducible rfl)); simp only [Act.put, List.setIfInBounds_toArray, List.set_cons_zero, List.set_cons_succ]))
          refine E.wpMix_end ?_
          obtain ⟨W4, hW4⟩ : ∃ W4, W4 = W.drew := ⟨_, rfl⟩
          have hU4 : UW w (.slice (some ⟨b, o, none⟩) N cap) g (.slice va (underL l g q).length vk) (underL l g q) (marks l g N q) N Ds W4 := by rw [hW4]; exact HUW.out.drew
          have hX4 : Boxed W4 wr.heap.size 3 (.int .i64 (q : Int)) := by rw [hW4]; exact HBX.out
          have hko : KeepsOthers W W4 := by rw [hW4]; exact KeepsOthers.drew _
          rw [← hW4]
          clear hW4
          have hM4 := hU4.mark q
          have hX5 := hX4.kept (W' := W4.setCell ⟨w.heap.size + 1 + 1 + 1, q, none⟩ (.bool true)) (row := some (w.heap.size + 1 + 1 + 1)) ⟨rfl, rfl, rfl, by simp, fun k _ hk => Below.heap_setCell _ _ _ k (fun e => hk (by rw [e]))⟩ (fun e => by have := Option.some.inj e; omega)
          have z1 := hU4.b4.cell
          have z2 := hX4.cell
          obtain ⟨z3, z4⟩ := hU4.mk0 (marks_at hql)
          have z5 := hU4.b2.cell
          have hko2 : KeepsOthers W4 (W4.setCell ⟨w.heap.size + 1 + 1 + 1, q, none⟩ (.bool true)) := KeepsOthers.setCell _ _ _
          have hne1 : ¬ wr.heap.size = w.heap.size + 1 + 1 + 1 := by omega
          have hne2 : ¬ w.heap.size + 1 + 1 + 1 = wr.heap.size := by omega
          have hrow := hM4.row
          have hul : (underL l g q).length ≤ q := by have := List.length_filter_le (isUnder l g) (List.range q); simpa [underL] using this
          have HU4 := hid hU4
          have HM4 := hid hM4
          have HK := hid (hko.trans hko2)
          clear hU4 hX4 hko hko2
          gi_wp2_with (first
            | (gi_at_builtin; refine wpListIn_append_own _ rfl _ _ 32 rfl (w.heap.size + 1 + 1 + 1 + 1 + 1) 3 i0 (.int .i64 0) 1 8 Try.underlying32 hi hz0 hz1 hz2 rfl (by decide) _ _ _ rfl (hrow.alloc _) ⟨W4.heap.size, 0, none⟩ 1 1 [.int .i64 (q : Int)] rfl rfl (cell_one_at _ _ _ W4.heap.size (by simp)) (by simp [Value.oneCell']) (by simp only [maxLen]; omega) (by omega) (by have := hM4.b4.lt; simp at this; simp; omega) ?_; intro v' w1 hown' hgrow _; obtain ⟨g', cap', rfl⟩ := ownsRow_succ hown'; obtain ⟨p1, p2, p3⟩ := hM4.push hown' hgrow; have hc1 := p3.cell; have hf1 := p3.frozen))
          refine ⟨HK.out.trans p2, rfl, .inl ⟨vals pre, x.1, vals_app _ _, HTT.out, _, p1⟩⟩
        | false =>
          gi_wp2
          refine R.wp_region_mix [1, 0, 0, 0, 1, 1, 0, 0, 1, 0, 0, 1, 0] (fun W'' => W''.cell? ⟨w.heap.size, 0, none⟩ = some (.slice (some ⟨b, o, none⟩) N cap) ∧ AtL W'' b (o + x.1 * 17) (u8s f.id).toList ∧ AtL W'' (w.heap.size + 1) 0 (u8s g).toList ∧ W''.cell? ⟨w.heap.size + 1 + 1 + 1 + 1, 0, none⟩ = some (.slice (some ⟨w.heap.size + 1 + 1 + 1, 0, none⟩) N N) ∧ W''.cell? ⟨w.heap.size + 1 + 1 + 1, x.1, none⟩ = some (.bool false)) (by kernel_rfl) (by kernel_rfl) HS.out ?_
          repeat (first
            | (refine' E.wpMix_not (by decide) rfl _; simp only [Act.put, List.setIfInBounds_toArray, List.set_cons_zero, List.set_cons_succ])
            | (refine E.wpMix_read _ rfl rfl (fun W'' hS => load_id rfl rfl hS.2.1 HFI.out) ?_; simp only [Act.put, List.setIfInBounds_toArray, List.set_cons_zero, List.set_cons_succ])
            | (refine E.wpMix_read _ rfl rfl (fun W'' hS => load_id rfl rfl hS.2.2.1 HG.out) ?_; simp only [Act.put, List.setIfInBounds_toArray, List.set_cons_zero, List.set_cons_succ])
            | (refine' E.wpMix_read _ rfl rfl _ _; rotate_left; (solve | (rintro W'' ⟨h1, h2, h3, h4, h5⟩; go_simp) | (rintro W'' ⟨h1, h2, h3, h4, h5⟩; go_simp; with_reducible rfl)); simp only [Act.put, List.setIfInBounds_toArray, List.set_cons_zero, List.set_cons_succ])
            | (refine' E.wpMix_value _ rfl rfl _ _; rotate_left; (solve | (intro W''; go_simp) | (intro W''; go_simp; with_reducible rfl)); simp only [Act.put, List.setIfInBounds_toArray, List.set_cons_zero, List.set_cons_succ]))
          refine E.wpMix_end ?_
          clear hov
          by_cases hlt : x.1 < q
          · have hd : decide (x.1 < q) = true := by simpa using hlt
            have HLT := hid hlt
            clear hlt
            gi_wp2
            refine ⟨KeepsOthers.drew _, rfl, .inr ⟨vals pre, x.1, vals_app _ _, fun y hy => ?_, HLT.out, HUW.out.drew⟩⟩
            rcases List.mem_append.1 hy with hy | hy
            · exact (HPRE.out y hy).1
            · simp at hy; rw [hy]; exact HTT.out
          · have hd : decide (x.1 < q) = false := by simpa using hlt
            have HLT := hid hlt
            clear hlt
            gi_wp2
            refine ⟨KeepsOthers.drew _, KS.refl _ _, HUW.out.drew, HBX.out, fun y hy => ?_⟩
            rcases vals_mem.1 hy with hy | hy
            · exact HPRE.out y hy
            · rw [hy]; exact ⟨HTT.out, by have := HLT.out; omega⟩
    case done =>
      rintro D ys W hD rfl ⟨hUW, hBX, hpre⟩ hK
      have hno := tst_all (fun y hy => (hpre y (by rw [vals_all]; exact hy)).1)
      have hu : underL l g (q + 1) = underL l g q := by rw [underL_succ, hno]; simp
      have hm : marks l g N (q + 1) = marks l g N q := marks_no hno
      have hnew : UW w (.slice (some ⟨b, o, none⟩) N cap) g ov (underL l g (q + 1)) (marks l g N (q + 1)) N (D :: Ds) W := by
        rw [hu, hm]
        exact ⟨hUW.b0, hUW.b1, hUW.b2, hUW.b3, hUW.b4, hUW.row, hUW.below, List.nodup_cons.2 ⟨fun hD2 => by have := HDL.out D hD2; omega, hUW.nd⟩, fun E hE => by
          rcases List.mem_cons.1 hE with rfl | hE
          · exact ⟨by omega, hK⟩
          · exact hUW.ds E hE⟩
      have HNEW := hid hnew
      clear hUW hBX hpre hno hu hm hnew hK
      gi_wp2
      refine ⟨⟨q + 1, ov, D :: Ds, .pointer (some ⟨wr.heap.size, 0, none⟩), .bool true, .int .i64 (q : Int), .slice (some ⟨b, o, none⟩) N cap, .int .i64 (q : Int), .func (.func 32) #[] #[.pointer (some ⟨wr.heap.size + 1 + 1, 0, none⟩), .pointer (some ⟨wr.heap.size + 1, 0, none⟩)], .int .i64 ((q : Int) + 1), by omega, HNEW, ?_⟩, by simp [intOf]; omega⟩
      have e : ((q + 1 : Nat) : Int) = (q : Int) + 1 := by omega
      rw [e]; rfl
    case stop =>
      rintro D c pre W hD hp ⟨rfl, hx⟩ hK
      have hfin : ∃ ov', UW w (.slice (some ⟨b, o, none⟩) N cap) g ov' (underL l g (q + 1)) (marks l g N (q + 1)) N (D :: Ds) W := by
        have key : ∀ {ov' : Value} {U : List Nat} {bs : List Bool}, UW w (.slice (some ⟨b, o, none⟩) N cap) g ov' U bs N Ds W → UW w (.slice (some ⟨b, o, none⟩) N cap) g ov' U bs N (D :: Ds) W := fun h =>
          ⟨h.b0, h.b1, h.b2, h.b3, h.b4, h.row, h.below, List.nodup_cons.2 ⟨fun hD2 => by have := HDL.out D hD2; omega, h.nd⟩, fun E hE => by
            rcases List.mem_cons.1 hE with rfl | hE
            · exact ⟨by omega, hK⟩
            · exact h.ds E hE⟩
        have hpv := vals_prefix hp
        rcases hx with ⟨pb, y, e1, e2, ov', hUW⟩ | ⟨pb, y, e1, e2, e3, hUW⟩
        · have hy : y ∈ lineL l (q : Int) := hpv.subset (by rw [e1]; simp)
          have hyes := tst_yes HN.out hy e2
          refine ⟨ov', ?_⟩
          rw [underL_succ, hyes, marks_yes hyes hql]
          exact key hUW
        · rw [e1] at hpv
          have hno := tst_no HN.out hpv e3 e2
          refine ⟨ov, ?_⟩
          rw [underL_succ, hno, marks_no hno]
          simp only [Bool.false_eq_true, if_false, List.append_nil]
          exact key hUW
      obtain ⟨ov', hnew⟩ := hfin
      have HNEW := hid hnew
      clear hx hnew hK
      gi_wp2
      refine ⟨⟨q + 1, ov', D :: Ds, .pointer (some ⟨wr.heap.size, 0, none⟩), .bool true, .int .i64 (q : Int), .slice (some ⟨b, o, none⟩) N cap, .int .i64 (q : Int), .func (.func 32) #[] #[.pointer (some ⟨wr.heap.size + 1 + 1, 0, none⟩), .pointer (some ⟨wr.heap.size + 1, 0, none⟩)], .int .i64 ((q : Int) + 1), by omega, HNEW, ?_⟩, by simp [intOf]; omega⟩
      have e : ((q + 1 : Nat) : Int) = (q : Int) + 1 := by omega
      rw [e]; rfl
  · obtain rfl : q = N := by omega
    have e2 := HU.out.b2.cell
    gi_wp2
    rw [Exit.noGoto_ret]
    refine leaves_marks Ds wr HU.out.nd (fun D hD => (HU.out.ds D hD).2) (fun W' h1 h2 h3 h4 h5 => ?_)
    have hfr : Fr (fun k => k ∈ Ds) wr W' := ⟨h1, h2, h3, h4, fun k _ hn => h5 k hn⟩
    have hv : ∀ k, ov.ownBlock = some k → ¬ k ∈ Ds := fun k hk hD => by
      have h1 := (HU.out.ds k hD).2
      rcases HU.out.row.2 with ⟨e, _⟩ | ⟨g', cap', cur, e, _, hgb, _⟩
      · subst e; simp [Value.ownBlock] at hk
      · subst e
        simp [Value.ownBlock] at hk
        subst hk
        rw [h1] at hgb; cases hgb
    exact ⟨_, results_tmp rfl _ _ _, ov, rfl, owns_low (hfr.owns HU.out.row hv) (by omega), HU.out.below.trans (hfr.below HU.out.below.size (fun k hk => by have := (HU.out.ds k hk).1; omega))⟩
theorem Under_any (w : World) (ad : Option Addr) (N cap : Nat) (l : List Face) (g : List Int) (hg : g.length = 16) (hF : FRow w w.heap.size ad l) (hN : N = l.length) (hN2 : N ≤ 100000) :
    Calls Try.prog 19 #[.slice ad N cap, .agg (u8s g)] w (SeqPost w (underL l g N)) :=
  (callsIn_wide (n := 7)).1 (Under_in 7 (by omega) w ad N cap l g hg hF hN hN2)
end Go.Proofs.Ytpcgplcpfbgcfaa
