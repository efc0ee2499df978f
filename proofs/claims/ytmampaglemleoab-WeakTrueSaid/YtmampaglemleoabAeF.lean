/-
  The contract of slices.Clone at an arena's places.
-/
import Derived.Test.YtmampaglemleoabAeD
namespace Go.Proofs.Ytmampaglemleoab
open Go.ChangeShapes Go.WideShapes Go.ChangeAt Go.RowKit

theorem addr_block (a : Addr) (n : Nat) : (a.add n).block = a.block := by unfold Addr.add; split <;> rfl
theorem rowsE_nil (W : World) : (binOp .eql 87 (.slice none 0 0) (.slice none 0 0)).run Try.prog W = .ok (.bool true) W := by kernel_rfl
theorem rowsE_not (a : Addr) (n k : Nat) (W : World) : (binOp .eql 87 (.slice (some a) n k) (.slice none 0 0)).run Try.prog W = .ok (.bool false) W := by kernel_rfl
def ClonePostE (w : World) (n : Nat) (xs : List Value) (e : Ending) (w' : World) : Prop := ∃ v, e = .returned v ∧ w'.ownsRow w.heap.size 101 3 v n xs ∧ Below w.heap.size w w'
theorem CloneE_any (w : World) (B : Nat) (cv : Value) (n : Nat) (xs : List Value) (h : w.ownsRow B 101 3 cv n xs) (hn : n ≤ 65536) (h1 : ∀ u ∈ xs, u.oneCell' = true) :
    Calls Try.prog 41 #[cv] w (ClonePostE w n xs) := by
  rcases h.2 with ⟨rfl, rfl⟩ | ⟨g, cap, cur, rfl, hb, hg, hnc, hcm, hcs, htake⟩
  · have hx : xs = [] := List.eq_nil_of_length_eq_zero (by simpa using h.1)
    subst hx
    clear h
    have hq := rowsE_nil
    go_enter Try.func41, Try.ntmps41
    go_wp2
    go_ret
    exact ⟨_, rfl, World.ownsRow_nil _ _ _ _, Below.refl _ _⟩
  · have hcell := h.cells (g := g) rfl
    have hl := h.1
    obtain ⟨i0, hi, hz0, hz1, hz2⟩ := info_parts infoCE
    have hi' := hid hi
    have hz0' := hid hz0
    have hz1' := hid hz1
    have hz2' := hid hz2
    have HC := hid hcell
    have HL := hid hl
    have H1 := hid h1
    have hgl : g < w.heap.size := (Array.getElem?_eq_some_iff.1 hg).1
    clear hi hz0 hz1 hz2 hcell hl h1 h hg hcs htake hb hcm hnc
    go_enter Try.func41, Try.ntmps41
    have hq := rowsE_not
    have hnews : ∀ o : Obj, ∀ (j : Nat) (u : Value), xs[j]? = some u → (w.alloc o).cell? ((⟨g, 0, none⟩ : Addr).add j) = some u := fun o j u hu => by
      rw [World.cell?_of_block (Below.heap_alloc w o _ (by rw [addr_block]; exact hgl))]
      exact HC.out j u hu
    have HNW := hid hnews
    clear hnews
    go_wp2_with (at_builtin; refine wpList_append_own _ (o := ⟨some 7, _, _, _, _, _⟩) rfl (.tmp 5) (.tmp 6) 87 rfl w.heap.size 101 i0 (.agg #[.pointer none, .int .u32 0, .bool false]) 3 16 Try.underlying87 hi'.out hz0'.out hz1'.out hz2'.out rfl (by decide) (.slice (some ⟨w.heap.size, 0, none⟩) 0 0) 0 [] rfl (World.ownsRow_made w #[] 0 (Nat.le_refl _) (Nat.zero_le _) rfl) ⟨g, 0, none⟩ n cap xs rfl HL.out (HNW.out _) H1.out (by unfold maxLen; omega) (by omega) (by simp) ?_; intro v5 w5 hown5 hgrow5 hnil5)
    have HO := hid hown5
    have HG := hid hgrow5
    clear hown5 hgrow5 hnil5
    go_ret
    refine ⟨_, rfl, ?_, ((Below.refl _ _).alloc (Nat.le_refl _) _).grown HG.out (by simp) (fun k hk => by simp [Value.ownBlock] at hk; omega)⟩
    have := HO.out
    rw [Nat.zero_add, List.nil_append] at this
    exact this
end Go.Proofs.Ytmampaglemleoab
