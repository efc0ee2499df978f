/-
  Bytes in memory; the contracts of isSize, hasRoom, gap, Fits, Room, SameBytes, great's twin and slices.Clone.
-/
import Derived.Test.YtdpdibhapjgdeaaChecked
import Derived.Test.YtdpdibhapjgdeaaWrM
import Derived.Test.YtdpdibhapjgdeaaRng
import Derived.Test.YtdpdibhapjgdeaaPick
import Derived.Test.YtdpdibhapjgdeaaLibB
namespace Go.Proofs.Ytdpdibhapjgdeaa
open Go Go.ChangeShapes Go.WideShapes Go.ChangeAt Go.RowKit

/-- Bytes in memory, their block below B. -/
structure Bs (w : World) (B : Nat) (ad : Option Addr) (xs : List Int) : Prop where
  some : 0 < xs.length → ∃ b o, ad = Option.some ⟨b, o, none⟩ ∧ b < B
  cells : ∀ (b o : Nat), ad = Option.some ⟨b, o, none⟩ → AtL w b o (u8l xs)
theorem u8l_at {xs : List Int} {j : Nat} (h : j < xs.length) : (u8l xs)[j]? = some (.int .u8 (xs.getD j 0)) := by simp [u8l, h]
theorem Bs.nil (w : World) (B : Nat) (ad : Option Addr) : Bs w B ad [] := ⟨fun h => absurd h (by simp), fun b o _ j v h => by simp [u8l] at h⟩
theorem Bs.cell {w : World} {B b o : Nat} {xs : List Int} (h : Bs w B (Option.some ⟨b, o, none⟩) xs) {j : Nat} (hj : j < xs.length) : w.cell? ⟨b, o + j, none⟩ = Option.some (.int .u8 (xs.getD j 0)) := h.cells b o rfl j _ (u8l_at hj)
theorem Bs.of_blocks {w w' : World} {B : Nat} {ad : Option Addr} {xs : List Int} (h : Bs w B ad xs) (hB : ∀ b o, ad = Option.some ⟨b, o, none⟩ → b < B → w'.heap[b]? = w.heap[b]?) : Bs w' B ad xs :=
  ⟨h.some, fun b o ha j v hv => by
    have hj : j < xs.length := by
      have := (List.getElem?_eq_some_iff.1 hv).1
      simpa [u8l] using this
    obtain ⟨b', o', h1, h2⟩ := h.some (by omega)
    rw [ha] at h1; cases h1
    exact (World.cell?_of_block (w := w) (w' := w') (a := ⟨b, o + j, none⟩) (hB b o ha h2)).trans (h.cells b o ha j v hv)⟩
theorem Bs.below {w w' : World} {B : Nat} {ad : Option Addr} {xs : List Int} (h : Bs w B ad xs) (hB : Below B w w') : Bs w' B ad xs := h.of_blocks fun b _ _ hb => hB.block b hb
theorem Bs.mono {w : World} {B B' : Nat} {ad : Option Addr} {xs : List Int} (h : Bs w B ad xs) (hB : B ≤ B') : Bs w B' ad xs :=
  ⟨fun hn => by obtain ⟨b, o, h1, h2⟩ := h.some hn; exact ⟨b, o, h1, Nat.lt_of_lt_of_le h2 hB⟩, h.cells⟩
theorem Bs.fr {w w' : World} {fp : Nat → Prop} {ad : Option Addr} {xs : List Int} (h : Bs w w.heap.size ad xs) (hf : Fr fp w w') (hn : ∀ b o, ad = Option.some ⟨b, o, none⟩ → ¬ fp b) : Bs w' w'.heap.size ad xs :=
  (h.of_blocks fun b o ha hb => hf.block b hb (hn b o ha)).mono hf.size
theorem Bs.drop {w : World} {B b o : Nat} {xs : List Int} (h : Bs w B (Option.some ⟨b, o, none⟩) xs) (n : Nat) : Bs w B (Option.some ⟨b, o + n, none⟩) (xs.drop n) :=
  ⟨fun hl => by
    obtain ⟨b', o', h1, h2⟩ := h.some (by simp at hl; omega)
    cases h1; exact ⟨b, o + n, rfl, h2⟩, fun b' o' he j v hv => by
    cases he
    have := h.cells b o rfl (n + j) v (by simpa [u8l, List.getElem?_drop] using hv)
    rw [Nat.add_assoc]; exact this⟩
theorem Bs.take {w : World} {B : Nat} {ad : Option Addr} {xs : List Int} (h : Bs w B ad xs) (n : Nat) : Bs w B ad (xs.take n) :=
  ⟨fun hl => h.some (by simp at hl; omega), fun b o he j v hv => h.cells b o he j v (by
    simp only [u8l, List.map_take] at hv ⊢
    rw [List.getElem?_take] at hv
    split at hv
    · exact hv
    · cases hv)⟩
/-- A row of the call's own, as bytes. -/
theorem own_bs {w : World} {B n cap : Nat} {ad : Option Addr} {xs : List Int} (h : w.ownsRow B 5 1 (.slice ad n cap) n (u8l xs)) : Bs w w.heap.size ad xs := by
  rcases h.2 with ⟨h1, h2⟩ | ⟨g, cap', cur, hv, hb, hg, hn, hm, hc, ht⟩
  · have : xs = [] := List.eq_nil_of_length_eq_zero (by have := h.1; rw [h2] at this; simpa [u8l] using this)
    subst this; exact Bs.nil _ _ _
  · cases hv
    have hl : xs.length = n := by simpa [u8l] using h.1
    refine ⟨fun _ => ⟨g, 0, rfl, (Array.getElem?_eq_some_iff.1 hg).1⟩, fun b o he j v hv => ?_⟩
    cases he
    have hj : j < xs.length := by
      have := (List.getElem?_eq_some_iff.1 hv).1
      simpa [u8l] using this
    rw [Nat.zero_add, h.cellAt j (by omega)]
    exact hv
theorem own_len {w : World} {B n : Nat} {v : Value} {xs : List Int} (h : w.ownsRow B 5 1 v n (u8l xs)) : xs.length = n := by simpa [u8l] using h.1

theorem isSize_any (s : Int) (w : World) : Calls Try.prog 31 #[.int .i64 s] w fun e w' => e = .returned (.bool (fits s)) ∧ w = w' := by
  by_cases h1 : s = 1
  · subst h1
    go_enter Try.func31, Try.ntmps31
    go_wp2
    go_ret
    exact ⟨rfl, rfl⟩
  · by_cases h2 : s = 2
    · subst h2
      go_enter Try.func31, Try.ntmps31
      go_wp2
      go_ret
      exact ⟨rfl, rfl⟩
    · by_cases h3 : s = 4
      · subst h3
        go_enter Try.func31, Try.ntmps31
        go_wp2
        go_ret
        exact ⟨rfl, rfl⟩
      · have E := hid (show fits s = (s == 8) by simp [fits, h1, h2, h3])
        have b1 : (s == 1) = false := by simpa using h1
        have b2 : (s == 2) = false := by simpa using h2
        have b3 : (s == 4) = false := by simpa using h3
        clear h1 h2 h3
        go_enter Try.func31, Try.ntmps31
        go_wp2
        go_ret
        exact ⟨ret_bool E.out.symm, rfl⟩
theorem Fits_any (s : Int) (w : World) : Calls Try.prog 17 #[.int .i64 s] w fun e w' => e = .returned (.bool (fits s)) ∧ w = w' := by
  by_cases h1 : s = 1
  · subst h1
    go_enter Try.func17, Try.ntmps17
    go_wp2
    go_ret
    exact ⟨rfl, rfl⟩
  · by_cases h2 : s = 2
    · subst h2
      go_enter Try.func17, Try.ntmps17
      go_wp2
      go_ret
      exact ⟨rfl, rfl⟩
    · by_cases h3 : s = 4
      · subst h3
        go_enter Try.func17, Try.ntmps17
        go_wp2
        go_ret
        exact ⟨rfl, rfl⟩
      · have E := hid (show fits s = (s == 8) by simp [fits, h1, h2, h3])
        have b1 : (s == 1) = false := by simpa using h1
        have b2 : (s == 2) = false := by simpa using h2
        have b3 : (s == 4) = false := by simpa using h3
        clear h1 h2 h3
        go_enter Try.func17, Try.ntmps17
        go_wp2
        go_ret
        exact ⟨ret_bool E.out.symm, rfl⟩
theorem room_eq {n : Int} {k : Nat} (h0 : 0 ≤ n) : (n / 256 ^ k == 0) = decide (n < 256 ^ k) := by
  have hp : (0 : Int) < 256 ^ k := Int.pow_pos (by omega)
  by_cases h : n < 256 ^ k
  · rw [Int.ediv_eq_zero_of_lt h0 h]; simp [h]
  · have : 1 ≤ n / 256 ^ k := by
      rw [Int.le_ediv_iff_mul_le hp]; omega
    have h2 : (n / 256 ^ k == 0) = false := by simp; omega
    rw [h2]; simp; omega
theorem hasRoom_any (n : Int) (k : Nat) (w : World) (hk : Siz k) (h0 : 0 ≤ n) : Calls Try.prog 32 #[.int .u64 n, .int .i64 k] w fun e w' => e = .returned (.bool (decide (n < 256 ^ k))) ∧ w = w' := by
  have E := hid (room_eq (k := k) h0)
  rcases hk with rfl | rfl | rfl | rfl
  · go_enter Try.func32, Try.ntmps32
    go_wp2
    go_ret
    exact ⟨ret_bool (by rw [← E.out]; rfl), rfl⟩
  · go_enter Try.func32, Try.ntmps32
    go_wp2
    go_ret
    exact ⟨ret_bool (by rw [← E.out]; rfl), rfl⟩
  · go_enter Try.func32, Try.ntmps32
    go_wp2
    go_ret
    exact ⟨ret_bool (by rw [← E.out]; rfl), rfl⟩
  · go_enter Try.func32, Try.ntmps32
    go_wp2
    go_ret
    exact ⟨ret_bool (by rw [← E.out]; rfl), rfl⟩
theorem gap_any (a k : Nat) (w : World) (hk : Siz k) (ha : a ≤ 1000000000) : Calls Try.prog 35 #[.int .i64 a, .int .i64 k] w fun e w' => e = .returned (.int .i64 (gap a k)) ∧ w = w' := by
  rcases hk with rfl | rfl | rfl | rfl
  · go_enter Try.func35, Try.ntmps35
    go_wp2
    go_ret
    exact ⟨ret_int (by unfold gap; omega), rfl⟩
  · go_enter Try.func35, Try.ntmps35
    go_wp2
    go_ret
    exact ⟨ret_int (by unfold gap; omega), rfl⟩
  · go_enter Try.func35, Try.ntmps35
    go_wp2
    go_ret
    exact ⟨ret_int (by unfold gap; omega), rfl⟩
  · go_enter Try.func35, Try.ntmps35
    go_wp2
    go_ret
    exact ⟨ret_int (by unfold gap; omega), rfl⟩
end Go.Proofs.Ytdpdibhapjgdeaa
