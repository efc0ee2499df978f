/-
  The laws' first call: the document's example.
-/
import Derived.Test.YtfmkfnkmhmobpaaArD
namespace Go.Proofs.Ytfmkfnkmhmobpaa
open Go.ChangeShapes Go.WideShapes Go.ChangeAt Go.RowKit

theorem new_InS (w : World) (m f : Nat) (hm : 1 ≤ m ∧ m ≤ 65536) (hf : 1 ≤ f ∧ f ≤ 4294967295) : InS (fun k => k = w.heap.size) (w.alloc (.cells #[.int .i64 m, .int .u32 f, .slice none 0 0, .slice none 0 0, .int .i64 0] 70)) w.heap.size (new m f) := by
  refine ⟨.slice none 0 0, .slice none 0 0, ⟨heap_alloc_new _ _, World.ownsRow_nil _ _ _ _, World.ownsRow_nil _ _ _ _, ?_, ?_, ?_⟩, new_ok hm hf, rfl, ?_, ?_, ?_⟩
  · simp [Value.ownBlock]
  · simp [Value.ownBlock]
  · intro k hk; simp [Value.ownBlock] at hk
  · intro k hk; simp [Value.ownBlock] at hk
  · intro k hk; simp [Value.ownBlock] at hk
  · intro k hk; subst hk; simp
/-- New: an arena with nothing in it. -/
def NewPost (w : World) (m f : Nat) (e : Ending) (w' : World) : Prop :=
  e = .returned (.tuple #[.pointer (some ⟨w.heap.size, 0, none⟩), .int .i64 0]) ∧ InS (fun k => k = w.heap.size) w' w.heap.size (new m f) ∧ Below w.heap.size w w'
theorem New_some (w : World) (m f : Nat) (hm : 1 ≤ m ∧ m ≤ 65536) (hf : 1 ≤ f ∧ f ≤ 4294967295) : Calls Try.prog 10 #[.int .i64 m, .int .u32 f] w (NewPost w m f) := by
  refine (New_any m f w (by omega) (by omega) (by omega) (by omega)).mono ?_
  rintro e w' ⟨rfl, rfl⟩
  exact ⟨rfl, new_InS w m f hm hf, (Below.refl _ _).alloc (Nat.le_refl _) _⟩

def a1 : Ar := ⟨2, 1, [⟨7, 1, true⟩], []⟩
def a2 : Ar := ⟨2, 1, [⟨0, 2, false⟩], [0]⟩
def a3 : Ar := ⟨2, 1, [⟨8, 2, true⟩], []⟩
theorem put1 : Put (new 2 1) 7 0 1 a1 := Put.fresh (A := new 2 1) (x := 7) rfl (by decide)
theorem find1 : Found a1 4294967297 0 ⟨7, 1, true⟩ := ⟨rfl, rfl, by decide⟩
theorem drop1 : dropAt a1 0 ⟨7, 1, true⟩ = a2 := rfl
theorem put2 : Put a2 8 0 2 a3 := Put.again (A := a2) (x := 8) [] 0 ⟨0, 2, false⟩ rfl rfl
theorem stale3 : Stale a3 4294967297 := fun i s h => by
  have h1 := h.1
  have h3 := h.2.2
  clear h
  cases i with
  | zero =>
    have e : (⟨8, 2, true⟩ : Spot) = s := Option.some.inj h1
    rw [← e] at h3
    have e2 : hand 0 (⟨8, 2, true⟩ : Spot).g = 8589934593 := by decide
    rw [e2] at h3
    exact absurd h3 (by decide)
  | succ i => simp [a3] at h1
theorem below_on {w0 w w1 : World} {S : Nat → Prop} (h : Below w0.heap.size w0 w) (hf : Fr S w w1) (hS : ∀ k, S k → w0.heap.size ≤ k) : Below w0.heap.size w0 w1 :=
  h.trans (hf.below h.size hS)
theorem ext_ge {S : Nat → Prop} {w w' : World} {B : Nat} (hS : ∀ k, S k → B ≤ k) (hB : B ≤ w.heap.size) : ∀ k, ext S w w' k → B ≤ k := fun k hk => by
  rcases hk with hk | hk
  · exact hS k hk
  · omega

set_option maxHeartbeats 400000 in
theorem awake_any (w : World) : Calls Try.prog 12 #[] w fun e w' => e = .returned (.bool true) ∧ Below w.heap.size w w' := by
  go_enter Try.func12, Try.ntmps12
  go_wp2_with fail
  refine (New_some w 2 1 (by decide) (by decide)).mono ?_
  rintro e w1 ⟨rfl, i1, b1⟩
  have q1 := Put_some _ w1 w.heap.size _ _ _ _ 7 i1 put1
  have eh : hand 0 1 = 4294967297 := by decide
  have eh2 : hand 0 2 = 8589934593 := by decide
  unfold PutPost at q1
  rw [eh] at q1
  have b1' := hid b1
  clear b1
  go_wp2_with fail
  refine q1.mono ?_
  rintro e w2 ⟨rfl, i2, f2⟩
  have q2 := Drop_again _ w2 w.heap.size _ _ _ _ i2 find1 (by decide)
  rw [drop1] at q2
  go_wp2_with fail
  refine q2.mono ?_
  rintro e w3 ⟨rfl, i3, f3⟩
  have q3 := Put_some _ w3 w.heap.size _ _ _ _ 8 i3 put2
  unfold PutPost at q3
  rw [eh2] at q3
  go_wp2_with fail
  refine q3.mono ?_
  rintro e w4 ⟨rfl, i4, f4⟩
  have q4 := Get_stale _ w4 w.heap.size _ _ i4 stale3 (by decide) (by decide)
  have hb : Below w.heap.size w w4 := by
    have s1 : ∀ k, k = w.heap.size → w.heap.size ≤ k := fun k h => by omega
    have z1 := b1'.out.size
    have z2 := f2.size
    have z3 := f3.size
    have t2 := below_on b1'.out f2 s1
    have s2 := ext_ge (w' := w2) s1 z1
    have t3 := below_on t2 f3 s2
    exact below_on t3 f4 (ext_ge s2 (by omega))
  have HB := hid hb
  clear i1 i2 i3 i4 f2 f3 f4 q1 q2 q3 eh eh2 hb b1'
  go_wp2_with fail
  refine q4.mono ?_
  rintro e w5 ⟨rfl, rfl⟩
  clear q4
  go_wp2
  go_ret
  exact ⟨rfl, HB.out⟩
end Go.Proofs.Ytfmkfnkmhmobpaa
