/-
  A row of items in memory; great.
-/
import Derived.Test.YtdpdibhapjgdeaaWrI
namespace Go.Proofs.Ytdpdibhapjgdeaa
open Go Go.ChangeShapes Go.WideShapes Go.ChangeAt Go.RowKit

/-- The cells of an item. -/
def icl (y : It) : List Value := [.bool y.t, .int .u64 y.n, .int .i64 y.s, .slice y.a y.x.length y.c]
/-- A row of items, all that it reaches below B. -/
structure IRow (w : World) (B : Nat) (ad : Option Addr) (l : List It) : Prop where
  some : 0 < l.length → ∃ b o, ad = Option.some ⟨b, o, none⟩ ∧ b < B
  cells : ∀ (b o : Nat), ad = Option.some ⟨b, o, none⟩ → ∀ (i : Nat) (y : It), l[i]? = Option.some y → ∀ j v, (icl y)[j]? = Option.some v → w.cell? ⟨b, o + i * 4 + j, none⟩ = Option.some v
  txt : ∀ y ∈ l, Bs w B y.a y.x ∧ (y.a = none → y.c = 0 ∧ y.x.length = 0)
  ok : ∀ y ∈ l, ItOk y
theorem IRow.of_blocks {w w' : World} {B : Nat} {ad : Option Addr} {l : List It} (h : IRow w B ad l) (hB : ∀ b, b < B → w'.heap[b]? = w.heap[b]?) : IRow w' B ad l :=
  ⟨h.some, fun b o ha i y hy j v hv => by
    obtain ⟨b', o', h1, h2⟩ := h.some (by have := (List.getElem?_eq_some_iff.1 hy).1; omega)
    rw [ha] at h1; cases h1
    exact (World.cell?_of_block (w := w) (w' := w') (a := ⟨b, o + i * 4 + j, none⟩) (hB b h2)).trans (h.cells b o ha i y hy j v hv),
   fun y hy => ⟨(h.txt y hy).1.of_blocks (fun b _ _ hb => hB b hb), (h.txt y hy).2⟩, h.ok⟩
theorem IRow.below {w w' : World} {B : Nat} {ad : Option Addr} {l : List It} (h : IRow w B ad l) (hB : Below B w w') : IRow w' B ad l := h.of_blocks fun b hb => hB.block b hb
section
variable {w : World} {B b o : Nat} {l : List It}
theorem IRow.c0 (h : IRow w B (Option.some ⟨b, o, none⟩) l) {i : Nat} {y : It} (hy : l[i]? = Option.some y) : w.cell? ⟨b, o + i * 4, none⟩ = Option.some (.bool y.t) := h.cells b o rfl i y hy 0 _ rfl
theorem IRow.c1 (h : IRow w B (Option.some ⟨b, o, none⟩) l) {i : Nat} {y : It} (hy : l[i]? = Option.some y) : w.cell? ⟨b, o + i * 4 + 1, none⟩ = Option.some (.int .u64 y.n) := h.cells b o rfl i y hy 1 _ rfl
theorem IRow.c2 (h : IRow w B (Option.some ⟨b, o, none⟩) l) {i : Nat} {y : It} (hy : l[i]? = Option.some y) : w.cell? ⟨b, o + i * 4 + 2, none⟩ = Option.some (.int .i64 y.s) := h.cells b o rfl i y hy 2 _ rfl
theorem IRow.c3 (h : IRow w B (Option.some ⟨b, o, none⟩) l) {i : Nat} {y : It} (hy : l[i]? = Option.some y) : w.cell? ⟨b, o + i * 4 + 3, none⟩ = Option.some (.slice y.a y.x.length y.c) := h.cells b o rfl i y hy 3 _ rfl
end
def GreatPost (w : World) (l : List It) (e : Ending) (w' : World) : Prop := ∃ b, e = .returned (.bool b) ∧ (b = false → ∀ (i : Nat) y, i < 100 → l[i]? = some y → y.x.length ≤ 70000) ∧ w = w'
theorem great_any (w : World) (ad : Option Addr) (n cap : Nat) (l : List It) (h : IRow w w.heap.size ad l) (hn : n = l.length) (hn2 : n ≤ 9223372036854775807) : Calls Try.prog 9 #[.slice ad n cap] w (GreatPost w l) := by
  have H := hid h
  have HN := hid hn
  have HN2 := hid hn2
  clear h hn hn2
  go_enter Try.func9, Try.ntmps9
  go_wp2
  go_loop [3, 4] (fun s i => ∃ q z : Nat, q ≤ n ∧ q ≤ 100 ∧ i = .int .i64 q ∧ s = .int .i64 z ∧ z ≤ 70000 * q ∧ RowKit.Hid (∀ (j : Nat) y, j < q → l[j]? = some y → y.x.length ≤ 70000)) (fun _ i => 100 - (intOf i).toNat)
  case atStart => exact ⟨0, 0, by omega, by omega, rfl, rfl, by omega, hid (fun j y hj => absurd hj (by omega))⟩
  case round =>
    obtain ⟨q, z, hq, hq1, rfl, rfl, hz, HQ⟩ := hrel
    by_cases hqn : q < n
    · by_cases hq9 : q < 100
      · obtain ⟨b, o, rfl, _⟩ := H.out.some (by have := HN.out; omega)
        have hy : l[q]? = some (l[q]'(by have := HN.out; omega)) := List.getElem?_eq_getElem _
        generalize l[q]'(by have := HN.out; omega) = y at hy
        have c3 := H.out.c3 hy
        have HY := hid hy
        obtain ⟨m, hm⟩ : ∃ m, m = y.x.length := ⟨_, rfl⟩
        have HM := hid hm
        rw [← hm] at c3
        have hm9 : m ≤ 9223372036854775807 := by
          have := H.out.ok y (List.mem_of_getElem? hy)
          have h1 := this.2.2.1
          have h2 := this.2.2.2.1
          omega
        clear hy hm
        by_cases hbig : 70000 < m
        · have hd : decide ((70000 : Int) < (m : Int)) = true := by simp; omega
          clear hm9
          go_wp2
          go_ret
          exact ⟨true, rfl, (fun h => by cases h), rfl⟩
        · have hd : decide ((70000 : Int) < (m : Int)) = false := by simp; omega
          clear hm9
          go_wp2
          go_round
          case rel => exact ⟨q + 1, z + m, by omega, by omega, by go_num, by go_num, by omega, hid (fun j y' hj hy' => by
            by_cases e : j = q
            · subst e
              rw [HY.out] at hy'; cases hy'
              have := HM.out; omega
            · exact HQ.out j y' (by omega) hy')⟩
          case measure => simp [intOf]; omega
      · have hq100 : q = 100 := by omega
        subst hq100
        go_wp2
        go_ret
        exact ⟨_, rfl, (fun _ i y hi hy => HQ.out i y hi hy), rfl⟩
    · obtain rfl : q = n := by omega
      go_wp2
      go_ret
      exact ⟨_, rfl, (fun _ i y _ hy => HQ.out i y (by have := HN.out; have := (List.getElem?_eq_some_iff.1 hy).1; omega) hy), rfl⟩
end Go.Proofs.Ytdpdibhapjgdeaa
