/-
  The contract of slices.Clone at bytes.
-/
import Derived.Test.YtceeipejhmnkfaaWrA
namespace Go.Proofs.Ytceeipejhmnkfaa
open Go Go.ChangeShapes Go.WideShapes Go.ChangeAt Go.RowKit

set_option maxRecDepth 100000 in
theorem rows_nil (W : World) : (binOp .eql 30 (.slice none 0 0) (.slice none 0 0)).run Try.prog W = .ok (.bool true) W := by kernel_rfl
set_option maxRecDepth 100000 in
theorem rows_not (a : Addr) (n k : Nat) (W : World) : (binOp .eql 30 (.slice (some a) n k) (.slice none 0 0)).run Try.prog W = .ok (.bool false) W := by kernel_rfl
set_option maxRecDepth 100000 in
/-- slices.Clone: any bytes. -/
theorem Clone_any (w : World) (a : Option Addr) (ka n : Nat) (xs : List Int) (hn : n = xs.length) (ha : Bs w w.heap.size a xs) (h0 : a = none → ka = 0 ∧ n = 0) (hn2 : n ≤ 140737488351232) :
    Calls Try.prog 47 #[.slice a n ka] w (RowPost w xs) := by
  cases a with
  | none =>
    obtain ⟨rfl, rfl⟩ := h0 rfl
    have hx : xs = [] := List.eq_nil_of_length_eq_zero hn.symm
    subst hx
    clear ha h0 hn
    have hq := rows_nil
    go_enter Try.func47, Try.ntmps47
    go_wp2
    go_ret
    exact ⟨_, rfl, World.ownsRow_nil _ _ _ _, Below.refl _ _⟩
  | some a =>
    obtain ⟨i0, hi, hz0, hz1, hz2⟩ := info_parts info5
    have hi' := hid hi
    have hz0' := hid hz0
    have hz1' := hid hz1
    have hz2' := hid hz2
    have hq := rows_not
    have hnews : ∀ o : Obj, ∀ (j : Nat) (u : Value), (u8l xs)[j]? = some u → (w.alloc o).cell? (a.add j) = some u := fun o j u hu => by
      have hj : j < xs.length := by
        have := (List.getElem?_eq_some_iff.1 hu).1
        simpa [u8l] using this
      obtain ⟨b, o', he, _⟩ := ha.some (by omega)
      cases he
      exact (ha.below ((Below.refl _ _).alloc (Nat.le_refl _) o)).news j u hu
    have HNW := hid hnews
    have HN := hid hn
    have HL := hid (show (u8l xs).length = n * 1 by rw [u8l_len, hn]; omega)
    clear hi hz0 hz1 hz2 ha h0 hnews hn
    go_enter Try.func47, Try.ntmps47
    go_wp2_with (at_builtin; refine wpList_append_own _ (o := ⟨some 7, _, _, _, _, _⟩) rfl (.tmp 5) (.tmp 6) 30 rfl w.heap.size 5 i0 (.int .u8 0) 1 1 Try.underlying30 hi'.out hz0'.out hz1'.out hz2'.out rfl (by decide) (.slice (some ⟨w.heap.size, 0, none⟩) 0 0) 0 [] rfl (World.ownsRow_made w #[] 0 (Nat.le_refl _) (Nat.zero_le _) rfl) a n ka (u8l xs) rfl HL.out (HNW.out _) (u8l_one xs) (by unfold maxLen; omega) (by omega) (by simp) ?_; intro v5 w5 hown5 hgrow5 hnil5)
    have HO := hid hown5
    have HG := hid hgrow5
    clear hown5 hgrow5 hnil5
    go_ret
    refine ⟨_, rfl, ?_, ((Below.refl _ _).alloc (Nat.le_refl _) _).grown HG.out (by simp) (fun k hk => by simp [Value.ownBlock] at hk; omega)⟩
    have := HO.out
    rw [Nat.zero_add, List.nil_append, HN.out] at this
    exact this
end Go.Proofs.Ytceeipejhmnkfaa
