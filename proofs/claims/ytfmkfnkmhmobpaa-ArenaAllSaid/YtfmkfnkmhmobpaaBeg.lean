/-
  A pair begun.
-/
import Derived.Test.YtfmkfnkmhmobpaaPair
namespace Go.Proofs.Ytfmkfnkmhmobpaa
open Go.ChangeShapes Go.WideShapes Go.ChangeAt Go.RowKit

theorem begun_none (m f : Int) (w : World) (h : m < 1 ∨ 65536 < m ∨ f = 0) : Calls Try.prog 13 #[.int .i64 m, .int .u32 f] w fun e w' => e = .returned (.pointer none) ∧ w = w' := by
  have p1 := New_not m f w h
  have p2 := RNew_not m f w h
  clear h
  go_enter Try.func13, Try.ntmps13
  go_wp2_with (first | (go_at_call 10; refine p1.mono ?_; rintro e w' ⟨rfl, rfl⟩) | (go_at_call 11; refine p2.mono ?_; rintro e w' ⟨rfl, rfl⟩))
  go_ret
  exact ⟨rfl, rfl⟩
def BegunPost (w0 w : World) (m f : Nat) (e : Ending) (w' : World) : Prop :=
  e = .returned (.pointer (some ⟨w.heap.size + 2, 0, none⟩)) ∧ PairInv w0 (w.heap.size + 2) w.heap.size (w.heap.size + 1) (fun k => k = w.heap.size) (fun k => k = w.heap.size + 1) (new m f) (new m f) [] (.slice none 0 0) w'
theorem begun_some (w0 w : World) (mi fi : Int) (m f : Nat) (e1 : mi = m) (e2 : fi = f) (hm : 1 ≤ m ∧ m ≤ 65536) (hf : 1 ≤ f ∧ f ≤ 4294967295) (hB : Below w0.heap.size w0 w) : Calls Try.prog 13 #[.int .i64 mi, .int .u32 fi] w (BegunPost w0 w m f) := by
  subst e1; subst e2
  have p1 := New_any m f w (by omega) (by omega) (by omega) (by omega)
  have p2 := fun W => RNew_any m f W (by omega) (by omega) (by omega) (by omega)
  have P2 := hid p2
  have HB := hid hB
  have HM := hid hm
  have HF := hid hf
  clear p2 hB hm hf
  go_enter Try.func13, Try.ntmps13
  go_wp2_with (first | (go_at_call 10; refine p1.mono ?_; rintro e w' ⟨rfl, rfl⟩) | (go_at_call 11; refine (P2.out _).mono ?_; rintro e w' ⟨rfl, rfl⟩))
  go_ret
  have a1 := new_InS w m f HM.out HF.out
  have hsz := HB.out.size
  refine ⟨by simp, ⟨a1.fr (((Fr.refl (fun _ => False) _).alloc _).alloc _) (fun _ _ e => e), ?_, ?_, World.ownsRow_nil _ _ _ _, ?_, ?_, ?_, ?_, ?_, ?_, ?_, ?_, ?_, ?_, by simp⟩⟩
  · have r1 := rnew_RInS (w.alloc (.cells #[.int .i64 m, .int .u32 f, .slice none 0 0, .slice none 0 0, .int .i64 0] 70)) m f HM.out HF.out
    rw [World.size_alloc] at r1
    exact r1.fr ((Fr.refl (fun _ => False) _).alloc _) (fun _ _ e => e)
  · have := heap_alloc_new ((w.alloc (.cells #[.int .i64 m, .int .u32 f, .slice none 0 0, .slice none 0 0, .int .i64 0] 70)).alloc (.cells #[.int .i64 m, .int .u32 f, .slice none 0 0, .slice none 0 0] 54)) (.cells #[.pointer (some ⟨w.heap.size, 0, none⟩), .pointer (some ⟨w.heap.size + 1, 0, none⟩), .slice none 0 0] 39)
    rw [World.size_alloc, World.size_alloc] at this
    simpa using this
  · intro k h1 h2; omega
  · intro h; omega
  · intro h; omega
  · intro k hk; simp [Value.ownBlock] at hk
  · intro k hk; simp [Value.ownBlock] at hk
  · simp [Value.ownBlock]
  · intro k hk; omega
  · intro k hk; omega
  · omega
  · exact ((HB.out.alloc hsz _).alloc (by simp; omega) _).alloc (by simp; omega) _
end Go.Proofs.Ytfmkfnkmhmobpaa
