/-
  The names' contract.
-/
import Derived.Test.YtidbdmggpljlcaaDoorCdW
import Derived.Laws.RangeString
import Derived.Laws.RangeAny
import Derived.Laws.Strings
import Derived.Laws.Strings2
import Derived.Laws.Strings3
namespace Go.Proofs.YtidbdmggpljlcaaDoor
open Go Go.ChangeShapes Go.WideShapes Go.ChangeAt Go.RowKit

/-- All names, each with a blank behind. -/
abbrev nmS : ByteArray := { data := #[112, 117, 115, 104, 32, 97, 114, 103, 32, 108, 111, 97, 100, 32, 115, 116, 111, 114, 101, 32, 97, 100, 100, 32, 110, 101, 103, 32, 115, 107, 105, 112, 32, 99, 97, 108, 108, 32, 112, 117, 116, 32, 100, 114, 111, 112, 32, 114, 101, 116, 117, 114, 110, 32] }
/-- The byte at a place; which name it belongs to, and where that one begins. -/
def nmB (p : Nat) : Nat := (nmS.data.getD p 0).toNat
def nmA : Nat → Nat
  | 0 => 1
  | p + 1 => if nmB p = 32 then nmA p + 1 else nmA p
def nmF : Nat → Nat
  | 0 => 0
  | p + 1 => if nmB p = 32 then p + 1 else nmF p
theorem nm_size : nmS.size = 54 := by decide +kernel
theorem nm_small : ∀ p : Fin 54, nmB p.val < 128 ∧ nmA p.val ≤ 11 ∧ nmF p.val ≤ p.val ∧ 1 ≤ nmA p.val := by decide +kernel
theorem nm_end : nmA 54 = 12 := by decide +kernel
theorem nm_cut : ∀ p : Fin 54, nmB p.val = 32 → nmS.extract (nmF p.val) p.val = nameP (nmA p.val) := by decide +kernel
theorem nm_at (p : Nat) (h : p < nmS.size) : (nmS[p]'h).toNat = nmB p := by
  unfold nmB
  have h2 : p < nmS.data.size := h
  rw [Array.getD_eq_getD_getElem?, Array.getElem?_eq_getElem h2]
  rfl
set_option maxRecDepth 100000 in
set_option maxHeartbeats 4000000 in
theorem names_holds : NmC := fun op w hop => by
  have HOP := hid hop
  clear hop
  go_enter Tryd.func17, Tryd.ntmps17
  go_wp2
  go_loopw [3, 4] (fun a f w' => ∃ pos : Nat, pos ≤ 54 ∧ w' = w.iter nmS pos ∧ a = .int .i64 (nmA pos) ∧ f = .int .i64 (nmF pos) ∧ RowKit.Hid (op < 1 ∨ (nmA pos : Int) ≤ op)) (fun _ _ w' => 54 - w'.iterPos w.heap.size)
  case atStart => exact ⟨0, by omega, rfl, rfl, rfl, hid (by show op < 1 ∨ (1 : Int) ≤ op; omega)⟩
  case round =>
    obtain ⟨pos, hp54, rfl, rfl, rfl, HO⟩ := hrel
    by_cases hp : pos < 54
    · have hps : pos < nmS.size := by rw [nm_size]; exact hp
      obtain ⟨q1, q2, q3, q4⟩ := nm_small ⟨pos, hp⟩
      simp only at q1 q2 q3 q4
      have hnx : ∀ ty, (Instr.next (.pointer (some ⟨w.heap.size, 0, none⟩)) true ty).run Tryd.prog (w.iter nmS pos) = .ok (.tuple #[.bool true, .int .i64 pos, .int .i32 (nmB pos)]) (w.iter nmS (pos + 1)) := fun ty => by
        rw [run_next_ascii w nmS pos ty hps (by rw [nm_at pos hps]; exact q1), nm_at pos hps]
      have hA : nmA (pos + 1) = if nmB pos = 32 then nmA pos + 1 else nmA pos := rfl
      have hF : nmF (pos + 1) = if nmB pos = 32 then pos + 1 else nmF pos := rfl
      have hc := nm_cut ⟨pos, hp⟩
      simp only at hc
      obtain ⟨b, hb⟩ : ∃ b, b = nmB pos := ⟨_, rfl⟩
      obtain ⟨a, ha⟩ : ∃ a, a = nmA pos := ⟨_, rfl⟩
      obtain ⟨f, hf⟩ : ∃ f, f = nmF pos := ⟨_, rfl⟩
      rw [← hb, ← ha] at hA
      rw [← hb, ← hf] at hF
      rw [← hb, ← ha, ← hf] at hc
      rw [← hb] at hnx q1
      rw [← ha] at q2 q4 HO ⊢
      rw [← hf] at q3 ⊢
      have HA := hid hA
      have HF := hid hF
      clear hA hF hb ha hf hps
      by_cases h32 : b = 32
      · have hcc := hc h32
        rw [if_pos h32] at *
        subst h32
        clear hc
        have HCC := hid hcc
        have wa : IntKind.i64.wrap ((a : Int) + 1) = ((a + 1 : Nat) : Int) := by rw [IntWalk.i64_in _ (by omega)]; omega
        have wp : IntKind.i64.wrap ((pos : Int) + 1) = ((pos + 1 : Nat) : Int) := by rw [IntWalk.i64_in _ (by omega)]; omega
        have e1 : (((32 : Nat) : Int) != 32) = false := by decide
        clear hcc
        by_cases hop : op = (a : Int)
        · subst hop
          have d2 : ((a : Int) == (a : Int)) = true := by simp
          go_wp2
          go_ret
          exact ⟨by rw [← HCC.out]; rfl, (Below.refl _ _).alloc (Nat.le_refl _) _⟩
        · have d2 : ((a : Int) == op) = false := by simp; omega
          have HNE := hid hop
          clear hop
          go_wp2
          go_roundw
          case rel => exact ⟨pos + 1, by omega, rfl, by rw [HA.out]; rfl, by rw [HF.out]; rfl, hid (by rw [HA.out]; have := HO.out; have := HNE.out; omega)⟩
          case measure => simp; omega
      · clear hc
        rw [if_neg h32] at HA HF
        have d1 : ((b : Int) != 32) = true := by simp; omega
        go_wp2
        go_roundw
        case rel => exact ⟨pos + 1, by omega, rfl, by rw [HA.out], by rw [HF.out], hid (by rw [HA.out]; exact HO.out)⟩
        case measure => simp; omega
    · obtain rfl : pos = 54 := by omega
      have hnx : ∀ ty, (Instr.next (.pointer (some ⟨w.heap.size, 0, none⟩)) true ty).run Tryd.prog (w.iter nmS 54) = .ok (.tuple #[.bool false]) (w.iter nmS 54) := fun ty => run_next_end w nmS 54 ty (by rw [nm_size]; decide)
      have hz : nameP op = ⟨#[]⟩ := name_out (by have := HO.out; rw [nm_end] at this; omega)
      have HZ := hid hz
      clear hz
      go_wp2
      go_ret
      exact ⟨by rw [HZ.out]; rfl, (Below.refl _ _).alloc (Nat.le_refl _) _⟩
end Go.Proofs.YtidbdmggpljlcaaDoor
