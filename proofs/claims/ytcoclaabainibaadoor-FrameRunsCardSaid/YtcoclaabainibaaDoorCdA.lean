/-
  Instructions: their cells; what one takes and lays; the plain twin's shape.
-/
import Derived.Test.YtcoclaabainibaaDoorGen
import Derived.Test.YtcoclaabainibaaDoorPick
import Derived.Test.YtcoclaabainibaaDoorFr
import Derived.Deep.Cut
import Derived.BigQuiet
namespace Go.Proofs.YtcoclaabainibaaDoor
open Go Go.ChangeShapes Go.WideShapes Go.ChangeAt Go.RowKit

/-- An instruction, plainly. -/
structure Ins where
  op : Int
  a : Int
  b : Int
deriving DecidableEq
abbrev J64 (x : Int) : Prop := -9223372036854775808 ≤ x ∧ x ≤ 9223372036854775807
structure InsOk (x : Ins) : Prop where
  op : J64 x.op
  a : J64 x.a
  b : J64 x.b
def insc (x : Ins) : List Value := [.int .i64 x.op, .int .i64 x.a, .int .i64 x.b]
def insA (x : Ins) : Array Value := (insc x).toArray
def InI (W : World) (b : Nat) (x : Ins) : Prop := W.heap[b]? = some (.cells (insA x) 45 (0, 0))
section
variable {W : World} {b : Nat} {x : Ins}
theorem InI.c0 (h : InI W b x) : W.cell? ⟨b, 0, none⟩ = some (.int .i64 x.op) := by unfold InI at h; simp [World.cell?, h, insA, insc]
theorem InI.c1 (h : InI W b x) : W.cell? ⟨b, 1, none⟩ = some (.int .i64 x.a) := by unfold InI at h; simp [World.cell?, h, insA, insc]
theorem InI.c2 (h : InI W b x) : W.cell? ⟨b, 2, none⟩ = some (.int .i64 x.b) := by unfold InI at h; simp [World.cell?, h, insA, insc]
end
/-- What an instruction takes, lays, and whether it may be. -/
def shapeP (x : Ins) (s : Int) : Int × Int × Bool :=
  if x.op = 1 then (0, 1, decide (-2147483648 ≤ x.a) && (decide (x.a ≤ 2147483647) && (x.b == 0)))
  else if x.op = 2 ∨ x.op = 3 then (0, 1, (x.a == 0) && (x.b == 0))
  else if x.op = 4 ∨ x.op = 11 then (1, 0, (x.a == 0) && (x.b == 0))
  else if x.op = 5 then (2, 1, (x.a == 0) && (x.b == 0))
  else if x.op = 6 then (1, 1, (x.a == 0) && (x.b == 0))
  else if x.op = 7 then (1, 0, decide (1 ≤ x.a) && (x.b == 0))
  else if x.op = 8 then (1, 1, (decide (0 ≤ x.a) && decide (x.a < s)) && (decide (0 ≤ x.b) && decide (x.b ≤ 7)))
  else if x.op = 9 ∨ x.op = 10 then (0, 0, (decide (0 ≤ x.a) && decide (x.a < s)) && (x.b == 0))
  else (0, 0, false)
def shV (x : Ins) (s : Int) : Value := .tuple #[.int .i64 (shapeP x s).1, .int .i64 (shapeP x s).2.1, .bool (shapeP x s).2.2]
theorem shape_le (x : Ins) (s : Int) : 0 ≤ (shapeP x s).1 ∧ (shapeP x s).1 ≤ 2 ∧ 0 ≤ (shapeP x s).2.1 ∧ (shapeP x s).2.1 ≤ 1 := by
  unfold shapeP
  repeat' split
  all_goals simp
set_option maxRecDepth 100000 in
set_option maxHeartbeats 4000000 in
theorem shape_1 (a b s : Int) (w : World) : Calls Tryd.prog 20 #[.agg (insA ⟨1, a, b⟩), .int .i64 s] w fun e w' => e = .returned (shV ⟨1, a, b⟩ s) ∧ Below w.heap.size w w' := by
  obtain ⟨w1, hw1⟩ : ∃ w1, w1 = w.alloc (.cells (insA ⟨1, a, b⟩) 45) := ⟨_, rfl⟩
  have ho : InI w1 w.heap.size ⟨1, a, b⟩ := by rw [hw1]; exact heap_alloc_new _ _
  have hB : Below w.heap.size w w1 := by rw [hw1]; exact (Below.refl _ _).alloc (Nat.le_refl _) _
  have c0 := ho.c0
  have c1 := ho.c1
  have c2 := ho.c2
  have HB := hid hB
  have HW := hid hw1
  simp only at c0 c1 c2
  clear hw1 ho hB
  rcases (show a < 0 ∨ a = 0 ∨ 0 < a by omega) with hs | hs | hs
  · have d1 : (a == 0) = false := by simp; omega
    have d2 : decide (0 ≤ a) = false := by simp; omega
    by_cases hl : -2147483648 ≤ a
    · have d3 : decide (-2147483648 ≤ a) = true := decide_eq_true hl
      have d4 : decide (a ≤ 2147483647) = true := decide_eq_true (by omega)
      clear hl hs
      have hz : shV ⟨1, a, b⟩ s = .tuple #[.int .i64 0, .int .i64 1, .bool (b == 0)] := by
        unfold shV shapeP
        dsimp only
        rw [if_pos (by decide), d3, d4]
        rfl
      rw [hz]
      clear hz
      go_enter Tryd.func20, Tryd.ntmps20
      go_upto_region 1 with (fail)
      change Code.wp _ _ _ _ (w.alloc (.cells (insA ⟨1, a, b⟩) 45))
      rw [← HW.out]
      go_wp2
      go_quiet (fail)
      go_wp2
      go_ret3
      exact ⟨rfl, below_drewN HB.out _⟩
    · have d3 : decide (-2147483648 ≤ a) = false := decide_eq_false hl
      clear hl hs
      have hz : shV ⟨1, a, b⟩ s = .tuple #[.int .i64 0, .int .i64 1, .bool (false)] := by
        unfold shV shapeP
        dsimp only
        rw [if_pos (by decide), d3]
        rfl
      rw [hz]
      clear hz
      go_enter Tryd.func20, Tryd.ntmps20
      go_upto_region 1 with (fail)
      change Code.wp _ _ _ _ (w.alloc (.cells (insA ⟨1, a, b⟩) 45))
      rw [← HW.out]
      go_wp2
      go_quiet (fail)
      go_wp2
      go_ret3
      exact ⟨rfl, below_drewN HB.out _⟩
  · have d1 : (a == 0) = true := by simp; omega
    have d2 : decide (0 ≤ a) = true := by simp; omega
    have d3 : decide (-2147483648 ≤ a) = true := decide_eq_true (by omega)
    have d4 : decide (a ≤ 2147483647) = true := decide_eq_true (by omega)
    clear hs
    have hz : shV ⟨1, a, b⟩ s = .tuple #[.int .i64 0, .int .i64 1, .bool (b == 0)] := by
      unfold shV shapeP
      dsimp only
      rw [if_pos (by decide), d3, d4]
      rfl
    rw [hz]
    clear hz
    go_enter Tryd.func20, Tryd.ntmps20
    go_upto_region 1 with (fail)
    change Code.wp _ _ _ _ (w.alloc (.cells (insA ⟨1, a, b⟩) 45))
    rw [← HW.out]
    go_wp2
    go_quiet (fail)
    go_wp2
    go_ret3
    exact ⟨rfl, below_drewN HB.out _⟩
  · have d1 : (a == 0) = false := by simp; omega
    have d2 : decide (0 ≤ a) = true := by simp; omega
    have d3 : decide (-2147483648 ≤ a) = true := decide_eq_true (by omega)
    by_cases hl : a ≤ 2147483647
    · have d4 : decide (a ≤ 2147483647) = true := decide_eq_true hl
      clear hl hs
      have hz : shV ⟨1, a, b⟩ s = .tuple #[.int .i64 0, .int .i64 1, .bool (b == 0)] := by
        unfold shV shapeP
        dsimp only
        rw [if_pos (by decide), d3, d4]
        rfl
      rw [hz]
      clear hz
      go_enter Tryd.func20, Tryd.ntmps20
      go_upto_region 1 with (fail)
      change Code.wp _ _ _ _ (w.alloc (.cells (insA ⟨1, a, b⟩) 45))
      rw [← HW.out]
      go_wp2
      go_quiet (fail)
      go_wp2
      go_ret3
      exact ⟨rfl, below_drewN HB.out _⟩
    · have d4 : decide (a ≤ 2147483647) = false := decide_eq_false hl
      clear hl hs
      have hz : shV ⟨1, a, b⟩ s = .tuple #[.int .i64 0, .int .i64 1, .bool (false)] := by
        unfold shV shapeP
        dsimp only
        rw [if_pos (by decide), d3, d4]
        rfl
      rw [hz]
      clear hz
      go_enter Tryd.func20, Tryd.ntmps20
      go_upto_region 1 with (fail)
      change Code.wp _ _ _ _ (w.alloc (.cells (insA ⟨1, a, b⟩) 45))
      rw [← HW.out]
      go_wp2
      go_quiet (fail)
      go_wp2
      go_ret3
      exact ⟨rfl, below_drewN HB.out _⟩
set_option maxRecDepth 100000 in
set_option maxHeartbeats 4000000 in
theorem shape_2 (a b s : Int) (w : World) : Calls Tryd.prog 20 #[.agg (insA ⟨2, a, b⟩), .int .i64 s] w fun e w' => e = .returned (shV ⟨2, a, b⟩ s) ∧ Below w.heap.size w w' := by
  obtain ⟨w1, hw1⟩ : ∃ w1, w1 = w.alloc (.cells (insA ⟨2, a, b⟩) 45) := ⟨_, rfl⟩
  have ho : InI w1 w.heap.size ⟨2, a, b⟩ := by rw [hw1]; exact heap_alloc_new _ _
  have hB : Below w.heap.size w w1 := by rw [hw1]; exact (Below.refl _ _).alloc (Nat.le_refl _) _
  have c0 := ho.c0
  have c1 := ho.c1
  have c2 := ho.c2
  have HB := hid hB
  have HW := hid hw1
  simp only at c0 c1 c2
  clear hw1 ho hB
  rcases (show a < 0 ∨ a = 0 ∨ 0 < a by omega) with hs | hs | hs
  · have d1 : (a == 0) = false := by simp; omega
    have d2 : decide (0 ≤ a) = false := by simp; omega
    clear hs
    have hz : shV ⟨2, a, b⟩ s = .tuple #[.int .i64 0, .int .i64 1, .bool (false)] := by
      unfold shV shapeP
      dsimp only
      rw [if_neg (by decide), if_pos (by decide), d1]
      rfl
    rw [hz]
    clear hz
    go_enter Tryd.func20, Tryd.ntmps20
    go_upto_region 1 with (fail)
    change Code.wp _ _ _ _ (w.alloc (.cells (insA ⟨2, a, b⟩) 45))
    rw [← HW.out]
    go_wp2
    go_ret3
    exact ⟨rfl, HB.out⟩
  · have d1 : (a == 0) = true := by simp; omega
    have d2 : decide (0 ≤ a) = true := by simp; omega
    clear hs
    have hz : shV ⟨2, a, b⟩ s = .tuple #[.int .i64 0, .int .i64 1, .bool (b == 0)] := by
      unfold shV shapeP
      dsimp only
      rw [if_neg (by decide), if_pos (by decide), d1]
      rfl
    rw [hz]
    clear hz
    go_enter Tryd.func20, Tryd.ntmps20
    go_upto_region 1 with (fail)
    change Code.wp _ _ _ _ (w.alloc (.cells (insA ⟨2, a, b⟩) 45))
    rw [← HW.out]
    go_wp2
    go_ret3
    exact ⟨rfl, HB.out⟩
  · have d1 : (a == 0) = false := by simp; omega
    have d2 : decide (0 ≤ a) = true := by simp; omega
    clear hs
    have hz : shV ⟨2, a, b⟩ s = .tuple #[.int .i64 0, .int .i64 1, .bool (false)] := by
      unfold shV shapeP
      dsimp only
      rw [if_neg (by decide), if_pos (by decide), d1]
      rfl
    rw [hz]
    clear hz
    go_enter Tryd.func20, Tryd.ntmps20
    go_upto_region 1 with (fail)
    change Code.wp _ _ _ _ (w.alloc (.cells (insA ⟨2, a, b⟩) 45))
    rw [← HW.out]
    go_wp2
    go_ret3
    exact ⟨rfl, HB.out⟩
set_option maxRecDepth 100000 in
set_option maxHeartbeats 4000000 in
theorem shape_3 (a b s : Int) (w : World) : Calls Tryd.prog 20 #[.agg (insA ⟨3, a, b⟩), .int .i64 s] w fun e w' => e = .returned (shV ⟨3, a, b⟩ s) ∧ Below w.heap.size w w' := by
  obtain ⟨w1, hw1⟩ : ∃ w1, w1 = w.alloc (.cells (insA ⟨3, a, b⟩) 45) := ⟨_, rfl⟩
  have ho : InI w1 w.heap.size ⟨3, a, b⟩ := by rw [hw1]; exact heap_alloc_new _ _
  have hB : Below w.heap.size w w1 := by rw [hw1]; exact (Below.refl _ _).alloc (Nat.le_refl _) _
  have c0 := ho.c0
  have c1 := ho.c1
  have c2 := ho.c2
  have HB := hid hB
  have HW := hid hw1
  simp only at c0 c1 c2
  clear hw1 ho hB
  rcases (show a < 0 ∨ a = 0 ∨ 0 < a by omega) with hs | hs | hs
  · have d1 : (a == 0) = false := by simp; omega
    have d2 : decide (0 ≤ a) = false := by simp; omega
    clear hs
    have hz : shV ⟨3, a, b⟩ s = .tuple #[.int .i64 0, .int .i64 1, .bool (false)] := by
      unfold shV shapeP
      dsimp only
      rw [if_neg (by decide), if_pos (by decide), d1]
      rfl
    rw [hz]
    clear hz
    go_enter Tryd.func20, Tryd.ntmps20
    go_upto_region 1 with (fail)
    change Code.wp _ _ _ _ (w.alloc (.cells (insA ⟨3, a, b⟩) 45))
    rw [← HW.out]
    go_wp2
    go_ret3
    exact ⟨rfl, HB.out⟩
  · have d1 : (a == 0) = true := by simp; omega
    have d2 : decide (0 ≤ a) = true := by simp; omega
    clear hs
    have hz : shV ⟨3, a, b⟩ s = .tuple #[.int .i64 0, .int .i64 1, .bool (b == 0)] := by
      unfold shV shapeP
      dsimp only
      rw [if_neg (by decide), if_pos (by decide), d1]
      rfl
    rw [hz]
    clear hz
    go_enter Tryd.func20, Tryd.ntmps20
    go_upto_region 1 with (fail)
    change Code.wp _ _ _ _ (w.alloc (.cells (insA ⟨3, a, b⟩) 45))
    rw [← HW.out]
    go_wp2
    go_ret3
    exact ⟨rfl, HB.out⟩
  · have d1 : (a == 0) = false := by simp; omega
    have d2 : decide (0 ≤ a) = true := by simp; omega
    clear hs
    have hz : shV ⟨3, a, b⟩ s = .tuple #[.int .i64 0, .int .i64 1, .bool (false)] := by
      unfold shV shapeP
      dsimp only
      rw [if_neg (by decide), if_pos (by decide), d1]
      rfl
    rw [hz]
    clear hz
    go_enter Tryd.func20, Tryd.ntmps20
    go_upto_region 1 with (fail)
    change Code.wp _ _ _ _ (w.alloc (.cells (insA ⟨3, a, b⟩) 45))
    rw [← HW.out]
    go_wp2
    go_ret3
    exact ⟨rfl, HB.out⟩
set_option maxRecDepth 100000 in
set_option maxHeartbeats 4000000 in
theorem shape_4 (a b s : Int) (w : World) : Calls Tryd.prog 20 #[.agg (insA ⟨4, a, b⟩), .int .i64 s] w fun e w' => e = .returned (shV ⟨4, a, b⟩ s) ∧ Below w.heap.size w w' := by
  obtain ⟨w1, hw1⟩ : ∃ w1, w1 = w.alloc (.cells (insA ⟨4, a, b⟩) 45) := ⟨_, rfl⟩
  have ho : InI w1 w.heap.size ⟨4, a, b⟩ := by rw [hw1]; exact heap_alloc_new _ _
  have hB : Below w.heap.size w w1 := by rw [hw1]; exact (Below.refl _ _).alloc (Nat.le_refl _) _
  have c0 := ho.c0
  have c1 := ho.c1
  have c2 := ho.c2
  have HB := hid hB
  have HW := hid hw1
  simp only at c0 c1 c2
  clear hw1 ho hB
  rcases (show a < 0 ∨ a = 0 ∨ 0 < a by omega) with hs | hs | hs
  · have d1 : (a == 0) = false := by simp; omega
    have d2 : decide (0 ≤ a) = false := by simp; omega
    clear hs
    have hz : shV ⟨4, a, b⟩ s = .tuple #[.int .i64 1, .int .i64 0, .bool (false)] := by
      unfold shV shapeP
      dsimp only
      rw [if_neg (by decide), if_neg (by decide), if_pos (by decide), d1]
      rfl
    rw [hz]
    clear hz
    go_enter Tryd.func20, Tryd.ntmps20
    go_upto_region 1 with (fail)
    change Code.wp _ _ _ _ (w.alloc (.cells (insA ⟨4, a, b⟩) 45))
    rw [← HW.out]
    go_wp2
    go_ret3
    exact ⟨rfl, HB.out⟩
  · have d1 : (a == 0) = true := by simp; omega
    have d2 : decide (0 ≤ a) = true := by simp; omega
    clear hs
    have hz : shV ⟨4, a, b⟩ s = .tuple #[.int .i64 1, .int .i64 0, .bool (b == 0)] := by
      unfold shV shapeP
      dsimp only
      rw [if_neg (by decide), if_neg (by decide), if_pos (by decide), d1]
      rfl
    rw [hz]
    clear hz
    go_enter Tryd.func20, Tryd.ntmps20
    go_upto_region 1 with (fail)
    change Code.wp _ _ _ _ (w.alloc (.cells (insA ⟨4, a, b⟩) 45))
    rw [← HW.out]
    go_wp2
    go_ret3
    exact ⟨rfl, HB.out⟩
  · have d1 : (a == 0) = false := by simp; omega
    have d2 : decide (0 ≤ a) = true := by simp; omega
    clear hs
    have hz : shV ⟨4, a, b⟩ s = .tuple #[.int .i64 1, .int .i64 0, .bool (false)] := by
      unfold shV shapeP
      dsimp only
      rw [if_neg (by decide), if_neg (by decide), if_pos (by decide), d1]
      rfl
    rw [hz]
    clear hz
    go_enter Tryd.func20, Tryd.ntmps20
    go_upto_region 1 with (fail)
    change Code.wp _ _ _ _ (w.alloc (.cells (insA ⟨4, a, b⟩) 45))
    rw [← HW.out]
    go_wp2
    go_ret3
    exact ⟨rfl, HB.out⟩
set_option maxRecDepth 100000 in
set_option maxHeartbeats 4000000 in
theorem shape_5 (a b s : Int) (w : World) : Calls Tryd.prog 20 #[.agg (insA ⟨5, a, b⟩), .int .i64 s] w fun e w' => e = .returned (shV ⟨5, a, b⟩ s) ∧ Below w.heap.size w w' := by
  obtain ⟨w1, hw1⟩ : ∃ w1, w1 = w.alloc (.cells (insA ⟨5, a, b⟩) 45) := ⟨_, rfl⟩
  have ho : InI w1 w.heap.size ⟨5, a, b⟩ := by rw [hw1]; exact heap_alloc_new _ _
  have hB : Below w.heap.size w w1 := by rw [hw1]; exact (Below.refl _ _).alloc (Nat.le_refl _) _
  have c0 := ho.c0
  have c1 := ho.c1
  have c2 := ho.c2
  have HB := hid hB
  have HW := hid hw1
  simp only at c0 c1 c2
  clear hw1 ho hB
  rcases (show a < 0 ∨ a = 0 ∨ 0 < a by omega) with hs | hs | hs
  · have d1 : (a == 0) = false := by simp; omega
    have d2 : decide (0 ≤ a) = false := by simp; omega
    clear hs
    have hz : shV ⟨5, a, b⟩ s = .tuple #[.int .i64 2, .int .i64 1, .bool (false)] := by
      unfold shV shapeP
      dsimp only
      rw [if_neg (by decide), if_neg (by decide), if_neg (by decide), if_pos (by decide), d1]
      rfl
    rw [hz]
    clear hz
    go_enter Tryd.func20, Tryd.ntmps20
    go_upto_region 1 with (fail)
    change Code.wp _ _ _ _ (w.alloc (.cells (insA ⟨5, a, b⟩) 45))
    rw [← HW.out]
    go_wp2
    go_ret3
    exact ⟨rfl, HB.out⟩
  · have d1 : (a == 0) = true := by simp; omega
    have d2 : decide (0 ≤ a) = true := by simp; omega
    clear hs
    have hz : shV ⟨5, a, b⟩ s = .tuple #[.int .i64 2, .int .i64 1, .bool (b == 0)] := by
      unfold shV shapeP
      dsimp only
      rw [if_neg (by decide), if_neg (by decide), if_neg (by decide), if_pos (by decide), d1]
      rfl
    rw [hz]
    clear hz
    go_enter Tryd.func20, Tryd.ntmps20
    go_upto_region 1 with (fail)
    change Code.wp _ _ _ _ (w.alloc (.cells (insA ⟨5, a, b⟩) 45))
    rw [← HW.out]
    go_wp2
    go_ret3
    exact ⟨rfl, HB.out⟩
  · have d1 : (a == 0) = false := by simp; omega
    have d2 : decide (0 ≤ a) = true := by simp; omega
    clear hs
    have hz : shV ⟨5, a, b⟩ s = .tuple #[.int .i64 2, .int .i64 1, .bool (false)] := by
      unfold shV shapeP
      dsimp only
      rw [if_neg (by decide), if_neg (by decide), if_neg (by decide), if_pos (by decide), d1]
      rfl
    rw [hz]
    clear hz
    go_enter Tryd.func20, Tryd.ntmps20
    go_upto_region 1 with (fail)
    change Code.wp _ _ _ _ (w.alloc (.cells (insA ⟨5, a, b⟩) 45))
    rw [← HW.out]
    go_wp2
    go_ret3
    exact ⟨rfl, HB.out⟩
set_option maxRecDepth 100000 in
set_option maxHeartbeats 4000000 in
theorem shape_6 (a b s : Int) (w : World) : Calls Tryd.prog 20 #[.agg (insA ⟨6, a, b⟩), .int .i64 s] w fun e w' => e = .returned (shV ⟨6, a, b⟩ s) ∧ Below w.heap.size w w' := by
  obtain ⟨w1, hw1⟩ : ∃ w1, w1 = w.alloc (.cells (insA ⟨6, a, b⟩) 45) := ⟨_, rfl⟩
  have ho : InI w1 w.heap.size ⟨6, a, b⟩ := by rw [hw1]; exact heap_alloc_new _ _
  have hB : Below w.heap.size w w1 := by rw [hw1]; exact (Below.refl _ _).alloc (Nat.le_refl _) _
  have c0 := ho.c0
  have c1 := ho.c1
  have c2 := ho.c2
  have HB := hid hB
  have HW := hid hw1
  simp only at c0 c1 c2
  clear hw1 ho hB
  rcases (show a < 0 ∨ a = 0 ∨ 0 < a by omega) with hs | hs | hs
  · have d1 : (a == 0) = false := by simp; omega
    have d2 : decide (0 ≤ a) = false := by simp; omega
    clear hs
    have hz : shV ⟨6, a, b⟩ s = .tuple #[.int .i64 1, .int .i64 1, .bool (false)] := by
      unfold shV shapeP
      dsimp only
      rw [if_neg (by decide), if_neg (by decide), if_neg (by decide), if_neg (by decide), if_pos (by decide), d1]
      rfl
    rw [hz]
    clear hz
    go_enter Tryd.func20, Tryd.ntmps20
    go_upto_region 1 with (fail)
    change Code.wp _ _ _ _ (w.alloc (.cells (insA ⟨6, a, b⟩) 45))
    rw [← HW.out]
    go_wp2
    go_ret3
    exact ⟨rfl, HB.out⟩
  · have d1 : (a == 0) = true := by simp; omega
    have d2 : decide (0 ≤ a) = true := by simp; omega
    clear hs
    have hz : shV ⟨6, a, b⟩ s = .tuple #[.int .i64 1, .int .i64 1, .bool (b == 0)] := by
      unfold shV shapeP
      dsimp only
      rw [if_neg (by decide), if_neg (by decide), if_neg (by decide), if_neg (by decide), if_pos (by decide), d1]
      rfl
    rw [hz]
    clear hz
    go_enter Tryd.func20, Tryd.ntmps20
    go_upto_region 1 with (fail)
    change Code.wp _ _ _ _ (w.alloc (.cells (insA ⟨6, a, b⟩) 45))
    rw [← HW.out]
    go_wp2
    go_ret3
    exact ⟨rfl, HB.out⟩
  · have d1 : (a == 0) = false := by simp; omega
    have d2 : decide (0 ≤ a) = true := by simp; omega
    clear hs
    have hz : shV ⟨6, a, b⟩ s = .tuple #[.int .i64 1, .int .i64 1, .bool (false)] := by
      unfold shV shapeP
      dsimp only
      rw [if_neg (by decide), if_neg (by decide), if_neg (by decide), if_neg (by decide), if_pos (by decide), d1]
      rfl
    rw [hz]
    clear hz
    go_enter Tryd.func20, Tryd.ntmps20
    go_upto_region 1 with (fail)
    change Code.wp _ _ _ _ (w.alloc (.cells (insA ⟨6, a, b⟩) 45))
    rw [← HW.out]
    go_wp2
    go_ret3
    exact ⟨rfl, HB.out⟩
set_option maxRecDepth 100000 in
set_option maxHeartbeats 4000000 in
theorem shape_7 (a b s : Int) (w : World) : Calls Tryd.prog 20 #[.agg (insA ⟨7, a, b⟩), .int .i64 s] w fun e w' => e = .returned (shV ⟨7, a, b⟩ s) ∧ Below w.heap.size w w' := by
  obtain ⟨w1, hw1⟩ : ∃ w1, w1 = w.alloc (.cells (insA ⟨7, a, b⟩) 45) := ⟨_, rfl⟩
  have ho : InI w1 w.heap.size ⟨7, a, b⟩ := by rw [hw1]; exact heap_alloc_new _ _
  have hB : Below w.heap.size w w1 := by rw [hw1]; exact (Below.refl _ _).alloc (Nat.le_refl _) _
  have c0 := ho.c0
  have c1 := ho.c1
  have c2 := ho.c2
  have HB := hid hB
  have HW := hid hw1
  simp only at c0 c1 c2
  clear hw1 ho hB
  rcases (show a < 0 ∨ a = 0 ∨ 0 < a by omega) with hs | hs | hs
  · have d1 : (a == 0) = false := by simp; omega
    have d2 : decide (0 ≤ a) = false := by simp; omega
    have d3 : decide (1 ≤ a) = false := by simp; omega
    clear hs
    have hz : shV ⟨7, a, b⟩ s = .tuple #[.int .i64 1, .int .i64 0, .bool (false)] := by
      unfold shV shapeP
      dsimp only
      rw [if_neg (by decide), if_neg (by decide), if_neg (by decide), if_neg (by decide), if_neg (by decide), if_pos (by decide), d3]
      rfl
    rw [hz]
    clear hz
    go_enter Tryd.func20, Tryd.ntmps20
    go_upto_region 1 with (fail)
    change Code.wp _ _ _ _ (w.alloc (.cells (insA ⟨7, a, b⟩) 45))
    rw [← HW.out]
    go_wp2
    go_quiet (fail)
    go_wp2
    go_ret3
    exact ⟨rfl, below_drewN HB.out _⟩
  · have d1 : (a == 0) = true := by simp; omega
    have d2 : decide (0 ≤ a) = true := by simp; omega
    have d3 : decide (1 ≤ a) = false := by simp; omega
    clear hs
    have hz : shV ⟨7, a, b⟩ s = .tuple #[.int .i64 1, .int .i64 0, .bool (false)] := by
      unfold shV shapeP
      dsimp only
      rw [if_neg (by decide), if_neg (by decide), if_neg (by decide), if_neg (by decide), if_neg (by decide), if_pos (by decide), d3]
      rfl
    rw [hz]
    clear hz
    go_enter Tryd.func20, Tryd.ntmps20
    go_upto_region 1 with (fail)
    change Code.wp _ _ _ _ (w.alloc (.cells (insA ⟨7, a, b⟩) 45))
    rw [← HW.out]
    go_wp2
    go_quiet (fail)
    go_wp2
    go_ret3
    exact ⟨rfl, below_drewN HB.out _⟩
  · have d1 : (a == 0) = false := by simp; omega
    have d2 : decide (0 ≤ a) = true := by simp; omega
    have d3 : decide (1 ≤ a) = true := by simp; omega
    clear hs
    have hz : shV ⟨7, a, b⟩ s = .tuple #[.int .i64 1, .int .i64 0, .bool (b == 0)] := by
      unfold shV shapeP
      dsimp only
      rw [if_neg (by decide), if_neg (by decide), if_neg (by decide), if_neg (by decide), if_neg (by decide), if_pos (by decide), d3]
      rfl
    rw [hz]
    clear hz
    go_enter Tryd.func20, Tryd.ntmps20
    go_upto_region 1 with (fail)
    change Code.wp _ _ _ _ (w.alloc (.cells (insA ⟨7, a, b⟩) 45))
    rw [← HW.out]
    go_wp2
    go_quiet (fail)
    go_wp2
    go_ret3
    exact ⟨rfl, below_drewN HB.out _⟩
set_option maxRecDepth 100000 in
set_option maxHeartbeats 4000000 in
theorem shape_8 (a b s : Int) (w : World) : Calls Tryd.prog 20 #[.agg (insA ⟨8, a, b⟩), .int .i64 s] w fun e w' => e = .returned (shV ⟨8, a, b⟩ s) ∧ Below w.heap.size w w' := by
  obtain ⟨w1, hw1⟩ : ∃ w1, w1 = w.alloc (.cells (insA ⟨8, a, b⟩) 45) := ⟨_, rfl⟩
  have ho : InI w1 w.heap.size ⟨8, a, b⟩ := by rw [hw1]; exact heap_alloc_new _ _
  have hB : Below w.heap.size w w1 := by rw [hw1]; exact (Below.refl _ _).alloc (Nat.le_refl _) _
  have c0 := ho.c0
  have c1 := ho.c1
  have c2 := ho.c2
  have HB := hid hB
  have HW := hid hw1
  simp only at c0 c1 c2
  clear hw1 ho hB
  rcases (show a < 0 ∨ a = 0 ∨ 0 < a by omega) with hs | hs | hs
  · have d1 : (a == 0) = false := by simp; omega
    have d2 : decide (0 ≤ a) = false := by simp; omega
    clear hs
    have hz : shV ⟨8, a, b⟩ s = .tuple #[.int .i64 1, .int .i64 1, .bool (false)] := by
      unfold shV shapeP
      dsimp only
      rw [if_neg (by decide), if_neg (by decide), if_neg (by decide), if_neg (by decide), if_neg (by decide), if_neg (by decide), if_pos (by decide), d2]
      rfl
    rw [hz]
    clear hz
    go_enter Tryd.func20, Tryd.ntmps20
    go_upto_region 1 with (fail)
    change Code.wp _ _ _ _ (w.alloc (.cells (insA ⟨8, a, b⟩) 45))
    rw [← HW.out]
    go_wp2
    go_quiet (fail)
    go_wp2
    go_ret3
    exact ⟨rfl, below_drewN HB.out _⟩
  · have d1 : (a == 0) = true := by simp; omega
    have d2 : decide (0 ≤ a) = true := by simp; omega
    by_cases hl : a < s
    · have d3 : decide (a < s) = true := decide_eq_true hl
      by_cases hb : 0 ≤ b
      · have d4 : decide (0 ≤ b) = true := decide_eq_true hb
        clear hl hs hb
        have hz : shV ⟨8, a, b⟩ s = .tuple #[.int .i64 1, .int .i64 1, .bool (decide (b ≤ 7))] := by
          unfold shV shapeP
          dsimp only
          rw [if_neg (by decide), if_neg (by decide), if_neg (by decide), if_neg (by decide), if_neg (by decide), if_neg (by decide), if_pos (by decide), d2, d3, d4]
          rfl
        rw [hz]
        clear hz
        go_enter Tryd.func20, Tryd.ntmps20
        go_upto_region 1 with (fail)
        change Code.wp _ _ _ _ (w.alloc (.cells (insA ⟨8, a, b⟩) 45))
        rw [← HW.out]
        go_wp2
        go_quiet (fail)
        go_wp2
        go_ret3
        exact ⟨rfl, below_drewN HB.out _⟩
      · have d4 : decide (0 ≤ b) = false := decide_eq_false hb
        clear hl hs hb
        have hz : shV ⟨8, a, b⟩ s = .tuple #[.int .i64 1, .int .i64 1, .bool (false)] := by
          unfold shV shapeP
          dsimp only
          rw [if_neg (by decide), if_neg (by decide), if_neg (by decide), if_neg (by decide), if_neg (by decide), if_neg (by decide), if_pos (by decide), d2, d3, d4]
          rfl
        rw [hz]
        clear hz
        go_enter Tryd.func20, Tryd.ntmps20
        go_upto_region 1 with (fail)
        change Code.wp _ _ _ _ (w.alloc (.cells (insA ⟨8, a, b⟩) 45))
        rw [← HW.out]
        go_wp2
        go_quiet (fail)
        go_wp2
        go_ret3
        exact ⟨rfl, below_drewN HB.out _⟩
    · have d3 : decide (a < s) = false := decide_eq_false hl
      clear hl hs
      have hz : shV ⟨8, a, b⟩ s = .tuple #[.int .i64 1, .int .i64 1, .bool (false)] := by
        unfold shV shapeP
        dsimp only
        rw [if_neg (by decide), if_neg (by decide), if_neg (by decide), if_neg (by decide), if_neg (by decide), if_neg (by decide), if_pos (by decide), d2, d3]
        rfl
      rw [hz]
      clear hz
      go_enter Tryd.func20, Tryd.ntmps20
      go_upto_region 1 with (fail)
      change Code.wp _ _ _ _ (w.alloc (.cells (insA ⟨8, a, b⟩) 45))
      rw [← HW.out]
      go_wp2
      go_quiet (fail)
      go_wp2
      go_ret3
      exact ⟨rfl, below_drewN HB.out _⟩
  · have d1 : (a == 0) = false := by simp; omega
    have d2 : decide (0 ≤ a) = true := by simp; omega
    by_cases hl : a < s
    · have d3 : decide (a < s) = true := decide_eq_true hl
      by_cases hb : 0 ≤ b
      · have d4 : decide (0 ≤ b) = true := decide_eq_true hb
        clear hl hs hb
        have hz : shV ⟨8, a, b⟩ s = .tuple #[.int .i64 1, .int .i64 1, .bool (decide (b ≤ 7))] := by
          unfold shV shapeP
          dsimp only
          rw [if_neg (by decide), if_neg (by decide), if_neg (by decide), if_neg (by decide), if_neg (by decide), if_neg (by decide), if_pos (by decide), d2, d3, d4]
          rfl
        rw [hz]
        clear hz
        go_enter Tryd.func20, Tryd.ntmps20
        go_upto_region 1 with (fail)
        change Code.wp _ _ _ _ (w.alloc (.cells (insA ⟨8, a, b⟩) 45))
        rw [← HW.out]
        go_wp2
        go_quiet (fail)
        go_wp2
        go_ret3
        exact ⟨rfl, below_drewN HB.out _⟩
      · have d4 : decide (0 ≤ b) = false := decide_eq_false hb
        clear hl hs hb
        have hz : shV ⟨8, a, b⟩ s = .tuple #[.int .i64 1, .int .i64 1, .bool (false)] := by
          unfold shV shapeP
          dsimp only
          rw [if_neg (by decide), if_neg (by decide), if_neg (by decide), if_neg (by decide), if_neg (by decide), if_neg (by decide), if_pos (by decide), d2, d3, d4]
          rfl
        rw [hz]
        clear hz
        go_enter Tryd.func20, Tryd.ntmps20
        go_upto_region 1 with (fail)
        change Code.wp _ _ _ _ (w.alloc (.cells (insA ⟨8, a, b⟩) 45))
        rw [← HW.out]
        go_wp2
        go_quiet (fail)
        go_wp2
        go_ret3
        exact ⟨rfl, below_drewN HB.out _⟩
    · have d3 : decide (a < s) = false := decide_eq_false hl
      clear hl hs
      have hz : shV ⟨8, a, b⟩ s = .tuple #[.int .i64 1, .int .i64 1, .bool (false)] := by
        unfold shV shapeP
        dsimp only
        rw [if_neg (by decide), if_neg (by decide), if_neg (by decide), if_neg (by decide), if_neg (by decide), if_neg (by decide), if_pos (by decide), d2, d3]
        rfl
      rw [hz]
      clear hz
      go_enter Tryd.func20, Tryd.ntmps20
      go_upto_region 1 with (fail)
      change Code.wp _ _ _ _ (w.alloc (.cells (insA ⟨8, a, b⟩) 45))
      rw [← HW.out]
      go_wp2
      go_quiet (fail)
      go_wp2
      go_ret3
      exact ⟨rfl, below_drewN HB.out _⟩
set_option maxRecDepth 100000 in
set_option maxHeartbeats 4000000 in
theorem shape_9 (a b s : Int) (w : World) : Calls Tryd.prog 20 #[.agg (insA ⟨9, a, b⟩), .int .i64 s] w fun e w' => e = .returned (shV ⟨9, a, b⟩ s) ∧ Below w.heap.size w w' := by
  obtain ⟨w1, hw1⟩ : ∃ w1, w1 = w.alloc (.cells (insA ⟨9, a, b⟩) 45) := ⟨_, rfl⟩
  have ho : InI w1 w.heap.size ⟨9, a, b⟩ := by rw [hw1]; exact heap_alloc_new _ _
  have hB : Below w.heap.size w w1 := by rw [hw1]; exact (Below.refl _ _).alloc (Nat.le_refl _) _
  have c0 := ho.c0
  have c1 := ho.c1
  have c2 := ho.c2
  have HB := hid hB
  have HW := hid hw1
  simp only at c0 c1 c2
  clear hw1 ho hB
  rcases (show a < 0 ∨ a = 0 ∨ 0 < a by omega) with hs | hs | hs
  · have d1 : (a == 0) = false := by simp; omega
    have d2 : decide (0 ≤ a) = false := by simp; omega
    clear hs
    have hz : shV ⟨9, a, b⟩ s = .tuple #[.int .i64 0, .int .i64 0, .bool (false)] := by
      unfold shV shapeP
      dsimp only
      rw [if_neg (by decide), if_neg (by decide), if_neg (by decide), if_neg (by decide), if_neg (by decide), if_neg (by decide), if_neg (by decide), if_pos (by decide), d2]
      rfl
    rw [hz]
    clear hz
    go_enter Tryd.func20, Tryd.ntmps20
    go_upto_region 1 with (fail)
    change Code.wp _ _ _ _ (w.alloc (.cells (insA ⟨9, a, b⟩) 45))
    rw [← HW.out]
    go_wp2
    go_quiet (fail)
    go_wp2
    go_ret3
    exact ⟨rfl, below_drewN HB.out _⟩
  · have d1 : (a == 0) = true := by simp; omega
    have d2 : decide (0 ≤ a) = true := by simp; omega
    by_cases hl : a < s
    · have d3 : decide (a < s) = true := decide_eq_true hl
      clear hl hs
      have hz : shV ⟨9, a, b⟩ s = .tuple #[.int .i64 0, .int .i64 0, .bool (b == 0)] := by
        unfold shV shapeP
        dsimp only
        rw [if_neg (by decide), if_neg (by decide), if_neg (by decide), if_neg (by decide), if_neg (by decide), if_neg (by decide), if_neg (by decide), if_pos (by decide), d2, d3]
        rfl
      rw [hz]
      clear hz
      go_enter Tryd.func20, Tryd.ntmps20
      go_upto_region 1 with (fail)
      change Code.wp _ _ _ _ (w.alloc (.cells (insA ⟨9, a, b⟩) 45))
      rw [← HW.out]
      go_wp2
      go_quiet (fail)
      go_wp2
      go_ret3
      exact ⟨rfl, below_drewN HB.out _⟩
    · have d3 : decide (a < s) = false := decide_eq_false hl
      clear hl hs
      have hz : shV ⟨9, a, b⟩ s = .tuple #[.int .i64 0, .int .i64 0, .bool (false)] := by
        unfold shV shapeP
        dsimp only
        rw [if_neg (by decide), if_neg (by decide), if_neg (by decide), if_neg (by decide), if_neg (by decide), if_neg (by decide), if_neg (by decide), if_pos (by decide), d2, d3]
        rfl
      rw [hz]
      clear hz
      go_enter Tryd.func20, Tryd.ntmps20
      go_upto_region 1 with (fail)
      change Code.wp _ _ _ _ (w.alloc (.cells (insA ⟨9, a, b⟩) 45))
      rw [← HW.out]
      go_wp2
      go_quiet (fail)
      go_wp2
      go_ret3
      exact ⟨rfl, below_drewN HB.out _⟩
  · have d1 : (a == 0) = false := by simp; omega
    have d2 : decide (0 ≤ a) = true := by simp; omega
    by_cases hl : a < s
    · have d3 : decide (a < s) = true := decide_eq_true hl
      clear hl hs
      have hz : shV ⟨9, a, b⟩ s = .tuple #[.int .i64 0, .int .i64 0, .bool (b == 0)] := by
        unfold shV shapeP
        dsimp only
        rw [if_neg (by decide), if_neg (by decide), if_neg (by decide), if_neg (by decide), if_neg (by decide), if_neg (by decide), if_neg (by decide), if_pos (by decide), d2, d3]
        rfl
      rw [hz]
      clear hz
      go_enter Tryd.func20, Tryd.ntmps20
      go_upto_region 1 with (fail)
      change Code.wp _ _ _ _ (w.alloc (.cells (insA ⟨9, a, b⟩) 45))
      rw [← HW.out]
      go_wp2
      go_quiet (fail)
      go_wp2
      go_ret3
      exact ⟨rfl, below_drewN HB.out _⟩
    · have d3 : decide (a < s) = false := decide_eq_false hl
      clear hl hs
      have hz : shV ⟨9, a, b⟩ s = .tuple #[.int .i64 0, .int .i64 0, .bool (false)] := by
        unfold shV shapeP
        dsimp only
        rw [if_neg (by decide), if_neg (by decide), if_neg (by decide), if_neg (by decide), if_neg (by decide), if_neg (by decide), if_neg (by decide), if_pos (by decide), d2, d3]
        rfl
      rw [hz]
      clear hz
      go_enter Tryd.func20, Tryd.ntmps20
      go_upto_region 1 with (fail)
      change Code.wp _ _ _ _ (w.alloc (.cells (insA ⟨9, a, b⟩) 45))
      rw [← HW.out]
      go_wp2
      go_quiet (fail)
      go_wp2
      go_ret3
      exact ⟨rfl, below_drewN HB.out _⟩
set_option maxRecDepth 100000 in
set_option maxHeartbeats 4000000 in
theorem shape_10 (a b s : Int) (w : World) : Calls Tryd.prog 20 #[.agg (insA ⟨10, a, b⟩), .int .i64 s] w fun e w' => e = .returned (shV ⟨10, a, b⟩ s) ∧ Below w.heap.size w w' := by
  obtain ⟨w1, hw1⟩ : ∃ w1, w1 = w.alloc (.cells (insA ⟨10, a, b⟩) 45) := ⟨_, rfl⟩
  have ho : InI w1 w.heap.size ⟨10, a, b⟩ := by rw [hw1]; exact heap_alloc_new _ _
  have hB : Below w.heap.size w w1 := by rw [hw1]; exact (Below.refl _ _).alloc (Nat.le_refl _) _
  have c0 := ho.c0
  have c1 := ho.c1
  have c2 := ho.c2
  have HB := hid hB
  have HW := hid hw1
  simp only at c0 c1 c2
  clear hw1 ho hB
  rcases (show a < 0 ∨ a = 0 ∨ 0 < a by omega) with hs | hs | hs
  · have d1 : (a == 0) = false := by simp; omega
    have d2 : decide (0 ≤ a) = false := by simp; omega
    clear hs
    have hz : shV ⟨10, a, b⟩ s = .tuple #[.int .i64 0, .int .i64 0, .bool (false)] := by
      unfold shV shapeP
      dsimp only
      rw [if_neg (by decide), if_neg (by decide), if_neg (by decide), if_neg (by decide), if_neg (by decide), if_neg (by decide), if_neg (by decide), if_pos (by decide), d2]
      rfl
    rw [hz]
    clear hz
    go_enter Tryd.func20, Tryd.ntmps20
    go_upto_region 1 with (fail)
    change Code.wp _ _ _ _ (w.alloc (.cells (insA ⟨10, a, b⟩) 45))
    rw [← HW.out]
    go_wp2
    go_quiet (fail)
    go_wp2
    go_ret3
    exact ⟨rfl, below_drewN HB.out _⟩
  · have d1 : (a == 0) = true := by simp; omega
    have d2 : decide (0 ≤ a) = true := by simp; omega
    by_cases hl : a < s
    · have d3 : decide (a < s) = true := decide_eq_true hl
      clear hl hs
      have hz : shV ⟨10, a, b⟩ s = .tuple #[.int .i64 0, .int .i64 0, .bool (b == 0)] := by
        unfold shV shapeP
        dsimp only
        rw [if_neg (by decide), if_neg (by decide), if_neg (by decide), if_neg (by decide), if_neg (by decide), if_neg (by decide), if_neg (by decide), if_pos (by decide), d2, d3]
        rfl
      rw [hz]
      clear hz
      go_enter Tryd.func20, Tryd.ntmps20
      go_upto_region 1 with (fail)
      change Code.wp _ _ _ _ (w.alloc (.cells (insA ⟨10, a, b⟩) 45))
      rw [← HW.out]
      go_wp2
      go_quiet (fail)
      go_wp2
      go_ret3
      exact ⟨rfl, below_drewN HB.out _⟩
    · have d3 : decide (a < s) = false := decide_eq_false hl
      clear hl hs
      have hz : shV ⟨10, a, b⟩ s = .tuple #[.int .i64 0, .int .i64 0, .bool (false)] := by
        unfold shV shapeP
        dsimp only
        rw [if_neg (by decide), if_neg (by decide), if_neg (by decide), if_neg (by decide), if_neg (by decide), if_neg (by decide), if_neg (by decide), if_pos (by decide), d2, d3]
        rfl
      rw [hz]
      clear hz
      go_enter Tryd.func20, Tryd.ntmps20
      go_upto_region 1 with (fail)
      change Code.wp _ _ _ _ (w.alloc (.cells (insA ⟨10, a, b⟩) 45))
      rw [← HW.out]
      go_wp2
      go_quiet (fail)
      go_wp2
      go_ret3
      exact ⟨rfl, below_drewN HB.out _⟩
  · have d1 : (a == 0) = false := by simp; omega
    have d2 : decide (0 ≤ a) = true := by simp; omega
    by_cases hl : a < s
    · have d3 : decide (a < s) = true := decide_eq_true hl
      clear hl hs
      have hz : shV ⟨10, a, b⟩ s = .tuple #[.int .i64 0, .int .i64 0, .bool (b == 0)] := by
        unfold shV shapeP
        dsimp only
        rw [if_neg (by decide), if_neg (by decide), if_neg (by decide), if_neg (by decide), if_neg (by decide), if_neg (by decide), if_neg (by decide), if_pos (by decide), d2, d3]
        rfl
      rw [hz]
      clear hz
      go_enter Tryd.func20, Tryd.ntmps20
      go_upto_region 1 with (fail)
      change Code.wp _ _ _ _ (w.alloc (.cells (insA ⟨10, a, b⟩) 45))
      rw [← HW.out]
      go_wp2
      go_quiet (fail)
      go_wp2
      go_ret3
      exact ⟨rfl, below_drewN HB.out _⟩
    · have d3 : decide (a < s) = false := decide_eq_false hl
      clear hl hs
      have hz : shV ⟨10, a, b⟩ s = .tuple #[.int .i64 0, .int .i64 0, .bool (false)] := by
        unfold shV shapeP
        dsimp only
        rw [if_neg (by decide), if_neg (by decide), if_neg (by decide), if_neg (by decide), if_neg (by decide), if_neg (by decide), if_neg (by decide), if_pos (by decide), d2, d3]
        rfl
      rw [hz]
      clear hz
      go_enter Tryd.func20, Tryd.ntmps20
      go_upto_region 1 with (fail)
      change Code.wp _ _ _ _ (w.alloc (.cells (insA ⟨10, a, b⟩) 45))
      rw [← HW.out]
      go_wp2
      go_quiet (fail)
      go_wp2
      go_ret3
      exact ⟨rfl, below_drewN HB.out _⟩
set_option maxRecDepth 100000 in
set_option maxHeartbeats 4000000 in
theorem shape_11 (a b s : Int) (w : World) : Calls Tryd.prog 20 #[.agg (insA ⟨11, a, b⟩), .int .i64 s] w fun e w' => e = .returned (shV ⟨11, a, b⟩ s) ∧ Below w.heap.size w w' := by
  obtain ⟨w1, hw1⟩ : ∃ w1, w1 = w.alloc (.cells (insA ⟨11, a, b⟩) 45) := ⟨_, rfl⟩
  have ho : InI w1 w.heap.size ⟨11, a, b⟩ := by rw [hw1]; exact heap_alloc_new _ _
  have hB : Below w.heap.size w w1 := by rw [hw1]; exact (Below.refl _ _).alloc (Nat.le_refl _) _
  have c0 := ho.c0
  have c1 := ho.c1
  have c2 := ho.c2
  have HB := hid hB
  have HW := hid hw1
  simp only at c0 c1 c2
  clear hw1 ho hB
  rcases (show a < 0 ∨ a = 0 ∨ 0 < a by omega) with hs | hs | hs
  · have d1 : (a == 0) = false := by simp; omega
    have d2 : decide (0 ≤ a) = false := by simp; omega
    clear hs
    have hz : shV ⟨11, a, b⟩ s = .tuple #[.int .i64 1, .int .i64 0, .bool (false)] := by
      unfold shV shapeP
      dsimp only
      rw [if_neg (by decide), if_neg (by decide), if_pos (by decide), d1]
      rfl
    rw [hz]
    clear hz
    go_enter Tryd.func20, Tryd.ntmps20
    go_upto_region 1 with (fail)
    change Code.wp _ _ _ _ (w.alloc (.cells (insA ⟨11, a, b⟩) 45))
    rw [← HW.out]
    go_wp2
    go_ret3
    exact ⟨rfl, HB.out⟩
  · have d1 : (a == 0) = true := by simp; omega
    have d2 : decide (0 ≤ a) = true := by simp; omega
    clear hs
    have hz : shV ⟨11, a, b⟩ s = .tuple #[.int .i64 1, .int .i64 0, .bool (b == 0)] := by
      unfold shV shapeP
      dsimp only
      rw [if_neg (by decide), if_neg (by decide), if_pos (by decide), d1]
      rfl
    rw [hz]
    clear hz
    go_enter Tryd.func20, Tryd.ntmps20
    go_upto_region 1 with (fail)
    change Code.wp _ _ _ _ (w.alloc (.cells (insA ⟨11, a, b⟩) 45))
    rw [← HW.out]
    go_wp2
    go_ret3
    exact ⟨rfl, HB.out⟩
  · have d1 : (a == 0) = false := by simp; omega
    have d2 : decide (0 ≤ a) = true := by simp; omega
    clear hs
    have hz : shV ⟨11, a, b⟩ s = .tuple #[.int .i64 1, .int .i64 0, .bool (false)] := by
      unfold shV shapeP
      dsimp only
      rw [if_neg (by decide), if_neg (by decide), if_pos (by decide), d1]
      rfl
    rw [hz]
    clear hz
    go_enter Tryd.func20, Tryd.ntmps20
    go_upto_region 1 with (fail)
    change Code.wp _ _ _ _ (w.alloc (.cells (insA ⟨11, a, b⟩) 45))
    rw [← HW.out]
    go_wp2
    go_ret3
    exact ⟨rfl, HB.out⟩
set_option maxRecDepth 100000 in
set_option maxHeartbeats 4000000 in
theorem shape_no (op a b s : Int) (w : World) (h : ∀ k : Int, 1 ≤ k → k ≤ 11 → op ≠ k) : Calls Tryd.prog 20 #[.agg (insA ⟨op, a, b⟩), .int .i64 s] w fun e w' => e = .returned (shV ⟨op, a, b⟩ s) ∧ Below w.heap.size w w' := by
  obtain ⟨w1, hw1⟩ : ∃ w1, w1 = w.alloc (.cells (insA ⟨op, a, b⟩) 45) := ⟨_, rfl⟩
  have ho : InI w1 w.heap.size ⟨op, a, b⟩ := by rw [hw1]; exact heap_alloc_new _ _
  have hB : Below w.heap.size w w1 := by rw [hw1]; exact (Below.refl _ _).alloc (Nat.le_refl _) _
  have c0 := ho.c0
  have c1 := ho.c1
  have c2 := ho.c2
  have HB := hid hB
  have HW := hid hw1
  simp only at c0 c1 c2
  have n1 := h 1 (by decide) (by decide)
  have n2 := h 2 (by decide) (by decide)
  have n3 := h 3 (by decide) (by decide)
  have n4 := h 4 (by decide) (by decide)
  have n5 := h 5 (by decide) (by decide)
  have n6 := h 6 (by decide) (by decide)
  have n7 := h 7 (by decide) (by decide)
  have n8 := h 8 (by decide) (by decide)
  have n9 := h 9 (by decide) (by decide)
  have n10 := h 10 (by decide) (by decide)
  have n11 := h 11 (by decide) (by decide)
  have hz : shV ⟨op, a, b⟩ s = .tuple #[.int .i64 0, .int .i64 0, .bool false] := by
    unfold shV shapeP
    dsimp only
    rw [if_neg n1, if_neg (by omega), if_neg (by omega), if_neg n5, if_neg n6, if_neg n7, if_neg n8, if_neg (by omega)]
  rw [hz]
  have e1 : (op == 1) = false := by simpa using n1
  have e2 : (op == 2) = false := by simpa using n2
  have e3 : (op == 3) = false := by simpa using n3
  have e4 : (op == 4) = false := by simpa using n4
  have e5 : (op == 5) = false := by simpa using n5
  have e6 : (op == 6) = false := by simpa using n6
  have e7 : (op == 7) = false := by simpa using n7
  have e8 : (op == 8) = false := by simpa using n8
  have e9 : (op == 9) = false := by simpa using n9
  have e10 : (op == 10) = false := by simpa using n10
  have e11 : (op == 11) = false := by simpa using n11
  clear hz hw1 ho hB h n1 n2 n3 n4 n5 n6 n7 n8 n9 n10 n11
  rcases (show a < 0 ∨ a = 0 ∨ 0 < a by omega) with hs | hs | hs
  · have d1 : (a == 0) = false := by simp; omega
    have d2 : decide (0 ≤ a) = false := by simp; omega
    clear hs
    go_enter Tryd.func20, Tryd.ntmps20
    go_upto_region 1 with (fail)
    change Code.wp _ _ _ _ (w.alloc (.cells (insA ⟨op, a, b⟩) 45))
    rw [← HW.out]
    go_wp2
    go_ret3
    exact ⟨rfl, HB.out⟩
  · have d1 : (a == 0) = true := by simp; omega
    have d2 : decide (0 ≤ a) = true := by simp; omega
    clear hs
    go_enter Tryd.func20, Tryd.ntmps20
    go_upto_region 1 with (fail)
    change Code.wp _ _ _ _ (w.alloc (.cells (insA ⟨op, a, b⟩) 45))
    rw [← HW.out]
    go_wp2
    go_ret3
    exact ⟨rfl, HB.out⟩
  · have d1 : (a == 0) = false := by simp; omega
    have d2 : decide (0 ≤ a) = true := by simp; omega
    clear hs
    go_enter Tryd.func20, Tryd.ntmps20
    go_upto_region 1 with (fail)
    change Code.wp _ _ _ _ (w.alloc (.cells (insA ⟨op, a, b⟩) 45))
    rw [← HW.out]
    go_wp2
    go_ret3
    exact ⟨rfl, HB.out⟩
theorem shape_any (x : Ins) (s : Int) (w : World) : Calls Tryd.prog 20 #[.agg (insA x), .int .i64 s] w fun e w' => e = .returned (shV x s) ∧ Below w.heap.size w w' := by
  obtain ⟨op, a, b⟩ := x
  by_cases h : 1 ≤ op ∧ op ≤ 11
  · rcases (show op = 1 ∨ op = 2 ∨ op = 3 ∨ op = 4 ∨ op = 5 ∨ op = 6 ∨ op = 7 ∨ op = 8 ∨ op = 9 ∨ op = 10 ∨ op = 11 by omega) with rfl | rfl | rfl | rfl | rfl | rfl | rfl | rfl | rfl | rfl | rfl
    · exact shape_1 a b s w
    · exact shape_2 a b s w
    · exact shape_3 a b s w
    · exact shape_4 a b s w
    · exact shape_5 a b s w
    · exact shape_6 a b s w
    · exact shape_7 a b s w
    · exact shape_8 a b s w
    · exact shape_9 a b s w
    · exact shape_10 a b s w
    · exact shape_11 a b s w
  · exact shape_no op a b s w (fun k h1 h2 e => h ⟨by omega, by omega⟩)
end Go.Proofs.YtcoclaabainibaaDoor
