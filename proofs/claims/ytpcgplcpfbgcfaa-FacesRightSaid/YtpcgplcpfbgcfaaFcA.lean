/-
  A row of faces in memory; the contracts of great, leads, baseIsRight, line.
-/
import Derived.Test.YtpcgplcpfbgcfaaFcM
import Derived.Test.YtpcgplcpfbgcfaaFr
import Derived.Test.YtpcgplcpfbgcfaaPick
import Derived.Test.YtpcgplcpfbgcfaaEq
import Derived.Test.YtpcgplcpfbgcfaaMixR
import Derived.Shelf.SlicesQ.Load
import Derived.Maps.AppendAt
namespace Go.Proofs.Ytpcgplcpfbgcfaa
open Go Go.ChangeShapes Go.WideShapes Go.ChangeAt Go.RowKit

/-- The cells of a face. -/
def fcl (f : Face) : List Value := u8l f.id ++ [.int .i64 f.base]
def I64 (x : Int) : Prop := -9223372036854775808 ≤ x ∧ x ≤ 9223372036854775807
/-- A row of faces, its blocks below B. -/
structure FRow (w : World) (B : Nat) (ad : Option Addr) (l : List Face) : Prop where
  some : 0 < l.length → ∃ b o, ad = some ⟨b, o, none⟩ ∧ b < B
  cells : ∀ (b o : Nat), ad = Option.some ⟨b, o, none⟩ → ∀ (i : Nat) (f : Face), l[i]? = Option.some f → ∀ j v, (fcl f)[j]? = Option.some v → w.cell? ⟨b, o + i * 17 + j, none⟩ = Option.some v
  len : ∀ f ∈ l, f.id.length = 16
  ok : ∀ f ∈ l, I64 f.base
theorem fcl_len {f : Face} (h : f.id.length = 16) : (fcl f).length = 17 := by simp [fcl, u8l, h]
theorem fcl_base {f : Face} (h : f.id.length = 16) : (fcl f)[16]? = some (.int .i64 f.base) := by
  unfold fcl
  rw [List.getElem?_append_right (by rw [u8l_len]; omega), u8l_len, h]; rfl
theorem fcl_id {f : Face} (h : f.id.length = 16) (j : Nat) (v : Value) (hv : (u8s f.id)[j]? = some v) : (fcl f)[j]? = some v := by
  have hj : j < 16 := by
    have := (Array.getElem?_eq_some_iff.1 hv).1
    rw [u8s_size] at this; omega
  unfold fcl
  rw [List.getElem?_append_left (by rw [u8l_len]; omega)]
  simpa [u8s, u8l] using hv
/-- Cells at a place of a block. -/
def AtL (W : World) (b o : Nat) (cs : List Value) : Prop := ∀ j v, cs[j]? = some v → W.cell? ⟨b, o + j, none⟩ = some v
theorem FRow.face {w : World} {B b o : Nat} {l : List Face} (h : FRow w B (Option.some ⟨b, o, none⟩) l) {i : Nat} {f : Face} (hf : l[i]? = Option.some f) : AtL w b (o + i * 17) (fcl f) := fun j v hv => h.cells b o rfl i f hf j v hv
theorem FRow.id {w : World} {B b o : Nat} {l : List Face} (h : FRow w B (Option.some ⟨b, o, none⟩) l) {i : Nat} {f : Face} (hf : l[i]? = Option.some f) : AtL w b (o + i * 17) (u8s f.id).toList := fun j v hv => h.cells b o rfl i f hf j v (fcl_id (h.len f (List.mem_of_getElem? hf)) j v (by simpa using hv))
theorem FRow.base {w : World} {B b o : Nat} {l : List Face} (h : FRow w B (Option.some ⟨b, o, none⟩) l) {i : Nat} {f : Face} (hf : l[i]? = Option.some f) : w.cell? ⟨b, o + i * 17 + 16, none⟩ = Option.some (.int .i64 f.base) := h.cells b o rfl i f hf 16 _ (fcl_base (h.len f (List.mem_of_getElem? hf)))
theorem FRow.of_blocks {w w' : World} {B : Nat} {ad : Option Addr} {l : List Face} (h : FRow w B ad l) (hB : ∀ b o, ad = Option.some ⟨b, o, none⟩ → b < B → w'.heap[b]? = w.heap[b]?) : FRow w' B ad l :=
  ⟨h.some, fun b o ha i f hf j v hv => by
    obtain ⟨b', o', h1, h2⟩ := h.some (by have := (List.getElem?_eq_some_iff.1 hf).1; omega)
    rw [ha] at h1; cases h1
    exact (World.cell?_of_block (w := w) (w' := w') (a := ⟨b, o + i * 17 + j, none⟩) (hB b o ha h2)).trans (h.cells b o ha i f hf j v hv), h.len, h.ok⟩
theorem FRow.below {w w' : World} {B : Nat} {ad : Option Addr} {l : List Face} (h : FRow w B ad l) (hB : Below B w w') : FRow w' B ad l := h.of_blocks fun b _ _ hb => hB.block b hb
theorem FRow.mono {w : World} {B B' : Nat} {ad : Option Addr} {l : List Face} (h : FRow w B ad l) (hB : B ≤ B') : FRow w B' ad l :=
  ⟨fun hn => by obtain ⟨b, o, h1, h2⟩ := h.some hn; exact ⟨b, o, h1, Nat.lt_of_lt_of_le h2 hB⟩, h.cells, h.len, h.ok⟩
theorem FRow.on {w w' : World} {ad : Option Addr} {l : List Face} (h : FRow w w.heap.size ad l) (hB : Below w.heap.size w w') : FRow w' w'.heap.size ad l := (h.below hB).mono hB.size
theorem FRow.take {w : World} {B : Nat} {ad : Option Addr} {l : List Face} (h : FRow w B ad l) (n : Nat) : FRow w B ad (l.take n) := by
  have key : ∀ {i : Nat} {f : Face}, (l.take n)[i]? = Option.some f → l[i]? = Option.some f := fun hf => by
    rw [List.getElem?_take] at hf
    split at hf
    · exact hf
    · cases hf
  exact ⟨fun hn => h.some (by simp at hn; omega), fun b o ha i f hf => h.cells b o ha i f (key hf), fun f hf => h.len f (List.mem_of_mem_take hf), fun f hf => h.ok f (List.mem_of_mem_take hf)⟩

theorem great_any (ad : Option Addr) (n cap : Nat) (w : World) : Calls Try.prog 9 #[.slice ad n cap] w fun e w' => e = .returned (.bool (decide ((60 : Int) < n))) ∧ w = w' := by
  go_enter Try.func9, Try.ntmps9
  go_wp2
  go_ret
  exact ⟨rfl, rfl⟩
theorem leads_any (i b : Int) (w : World) : Calls Try.prog 29 #[.int .i64 i, .int .i64 b] w fun e w' => e = .returned (.bool (decide (0 ≤ b) && decide (b < i))) ∧ w = w' := by
  by_cases h : 0 ≤ b
  · have h0 : decide (0 ≤ b) = true := by simpa using h
    have e : (decide (0 ≤ b) && decide (b < i)) = decide (b < i) := by simp [h]
    have E := hid e
    clear h e
    go_enter Try.func29, Try.ntmps29
    go_wp2
    go_ret
    exact ⟨ret_bool E.out.symm, rfl⟩
  · have h0 : decide (0 ≤ b) = false := by simpa using h
    have e : (decide (0 ≤ b) && decide (b < i)) = false := by simp [h]
    have E := hid e
    clear h e
    go_enter Try.func29, Try.ntmps29
    go_wp2
    go_ret
    exact ⟨ret_bool E.out.symm, rfl⟩
theorem base_any (i : Nat) (b : Int) (w : World) : Calls Try.prog 26 #[.int .i64 i, .int .i64 b] w fun e w' => e = .returned (.bool (baseOk i b)) ∧ w = w' := by
  by_cases h : i = 0
  · have e : baseOk i b = decide (b = -1) := by unfold baseOk; rw [if_pos h]
    have E := hid e
    clear e
    subst h
    go_enter Try.func26, Try.ntmps26
    go_wp2
    go_ret
    exact ⟨ret_bool (by rw [E.out]; rfl), rfl⟩
  · have e : baseOk i b = (decide (0 ≤ b) && decide (b < (i : Int))) := by unfold baseOk; rw [if_neg h]; simp
    have E := hid e
    have h0 : ((i : Int) == 0) = false := by simp; omega
    clear e h
    go_enter Try.func26, Try.ntmps26
    go_wp2_with (go_at_call 29; refine (leads_any _ _ _).mono ?_; rintro e w' ⟨rfl, rfl⟩)
    go_ret
    exact ⟨ret_bool E.out.symm, rfl⟩
/-- line: a function value that holds the row and the place in boxes. -/
theorem line_any (ad : Option Addr) (n cap : Nat) (i : Int) (w : World) : Calls Try.prog 28 #[.slice ad n cap, .int .i64 i] w fun e w' =>
    e = .returned (.func (.func 32) #[] #[.pointer (some ⟨w.heap.size + 1, 0, none⟩), .pointer (some ⟨w.heap.size, 0, none⟩)]) ∧ w' = (w.alloc (.cells #[.slice ad n cap] 22)).alloc (.cells #[.int .i64 i] 3) := by
  go_enter Try.func28, Try.ntmps28
  go_wp2
  go_ret
  exact ⟨rfl, rfl⟩
end Go.Proofs.Ytpcgplcpfbgcfaa
