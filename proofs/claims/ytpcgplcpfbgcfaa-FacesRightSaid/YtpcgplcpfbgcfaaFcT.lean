/-
  The document's example: the laws' first call.
-/
import Derived.Test.YtpcgplcpfbgcfaaFcK
import Derived.Test.YtpcgplcpfbgcfaaFcS
namespace Go.Proofs.Ytpcgplcpfbgcfaa
open Go Go.ChangeShapes Go.WideShapes Go.ChangeAt Go.RowKit

theorem flat_at17 : ∀ (l : List Face) (i j : Nat) (f : Face) (v : Value), (∀ f ∈ l, f.id.length = 16) → l[i]? = some f → (fcl f)[j]? = some v → (l.flatMap fcl)[i * 17 + j]? = some v
  | [], i, j, f, v, _, h, _ => by cases h
  | a :: l, 0, j, f, v, hl, h, hv => by
    simp at h; subst h
    rw [List.flatMap_cons, Nat.zero_mul, Nat.zero_add, List.getElem?_append_left (List.getElem?_eq_some_iff.1 hv).1]
    exact hv
  | a :: l, i + 1, j, f, v, hl, h, hv => by
    have h17 := fcl_len (hl a (by simp))
    rw [List.flatMap_cons, List.getElem?_append_right (by omega), h17]
    have := flat_at17 l i j f v (fun f hf => hl f (by simp [hf])) (by simpa using h) hv
    rw [← this]
    congr 1
    omega
/-- A block of its own that holds faces. -/
theorem FRow.of_block {W : World} {b t : Nat} {fz : Nat × Nat} {cs : Array Value} {l : List Face} (h : W.heap[b]? = Option.some (.cells cs t fz)) (hl : ∀ f ∈ l, f.id.length = 16) (hok : ∀ f ∈ l, I64 f.base)
    (hc : ∀ (i : Nat) (v : Value), (l.flatMap fcl)[i]? = Option.some v → cs[i]? = Option.some v) : FRow W W.heap.size (Option.some ⟨b, 0, none⟩) l :=
  ⟨fun _ => ⟨b, 0, rfl, (Array.getElem?_eq_some_iff.1 h).1⟩, fun b' o ha i f hf j v hv => by
    cases ha
    rw [cell_of_row _ _ _ _ _ _ h]
    refine hc _ v ?_
    rw [Nat.zero_add]
    exact flat_at17 l i j f v hl hf hv, hl, hok⟩
def id3 (n : Int) : List Int := [n, 0, 0, 0, 0, 0, 0, 0, 0, 0, 0, 0, 0, 0, 0, 0]
def fs3 : List Face := [⟨id3 0, -1⟩, ⟨id3 1, 0⟩, ⟨id3 2, 1⟩]
theorem fs3_check : checkL fs3 = 0 := by decide
theorem fs3_n0 : nxt fs3 0 = none := by decide
theorem fs3_n1 : nxt fs3 1 = some 0 := by decide
theorem fs3_n2 : nxt fs3 2 = some 1 := by decide
theorem fs3_l1 : lineL fs3 1 = [1, 0] := by
  rw [lineL_in (by decide), show (1 : Int).toNat = 1 from rfl, lineN_some fs3_n1, lineN_none fs3_n0]
theorem fs3_l2 : lineL fs3 2 = [2, 1, 0] := by
  rw [lineL_in (by decide), show (2 : Int).toNat = 2 from rfl, lineN_some fs3_n2, lineN_some fs3_n1, lineN_none fs3_n0]
theorem fs3_common : commonL fs3 1 2 = some 1 := by
  unfold commonL
  rw [fs3_l1, fs3_l2]; decide
theorem fs3_len : ∀ f ∈ fs3, f.id.length = 16 := by decide
theorem fs3_ok : ∀ f ∈ fs3, I64 f.base := fun f hf => by
  simp [fs3] at hf
  rcases hf with rfl | rfl | rfl <;> (unfold I64; simp)
set_option maxRecDepth 100000 in
theorem three_any (w : World) : Calls Try.prog 25 #[] w fun e w' => e = .returned (.slice (some ⟨w.heap.size, 0, none⟩) 3 3) ∧ w' = w.alloc (.cells (fs3.flatMap fcl).toArray 30) := by
  go_enter Try.func25, Try.ntmps25
  go_wp2
  go_ret
  exact ⟨rfl, rfl⟩
theorem three_row (w : World) : FRow (w.alloc (.cells (fs3.flatMap fcl).toArray 30)) (w.alloc (.cells (fs3.flatMap fcl).toArray 30)).heap.size (some ⟨w.heap.size, 0, none⟩) fs3 :=
  FRow.of_block (heap_alloc_new w _) fs3_len fs3_ok (fun i v h => by simpa using h)
set_option maxHeartbeats 1000000 in
set_option maxRecDepth 100000 in
theorem awake_any (w : World) : Calls Try.prog 10 #[] w fun e w' => e = .returned (.bool true) ∧ Below w.heap.size w w' := by
  go_enter Try.func10, Try.ntmps10
  go_wp2_with fail
  refine (three_any w).mono ?_
  rintro e w' ⟨rfl, hw⟩
  have hR := three_row w
  rw [← hw] at hR
  have hB : Below w.heap.size w w' := by rw [hw]; exact (Below.refl _ _).alloc (Nat.le_refl _) _
  have HR := hid hR
  have HB := hid hB
  have HCM := hid (Common_any w' (some ⟨w.heap.size, 0, none⟩) 3 3 fs3 1 2 hR rfl)
  clear hw hR hB
  go_wp2_with fail
  refine HCM.out.mono ?_
  rintro e w2 ⟨rfl, hb2⟩
  rw [fs3_common]
  have HR2 := hid (HR.out.on hb2)
  have HB2 := hid (HB.out.trans (hb2.mono HB.out.size))
  have HCK := hid (Check_any w2 (some ⟨w.heap.size, 0, none⟩) 3 3 fs3 HR2.out rfl (by decide) (by decide) (by decide))
  have e1 : cmV (some 1) = 1 := rfl
  have e2 : cmE (some 1) = 0 := rfl
  clear hb2 HCM HR HB
  rw [e1, e2]
  clear e1 e2
  go_wp2_with fail
  refine HCK.out.mono ?_
  rintro e w3 ⟨rfl, hb3⟩
  rw [fs3_check]
  have HR3 := hid (HR2.out.on hb3)
  have HB3 := hid (HB2.out.trans (hb3.mono HB2.out.size))
  have HTL := hid (told_any w3 (some ⟨w.heap.size, 0, none⟩) 3 3 fs3 2 9 HR3.out rfl (by decide) (by decide) (by decide))
  clear hb3 HCK HR2 HB2
  go_wp2_with fail
  refine HTL.out.mono ?_
  rintro e w4 ⟨lv, rfl, hrow, hb4⟩
  have ht : (lineL fs3 2).take (9 : Int).toNat = [2, 1, 0] := by rw [fs3_l2]; decide
  rw [ht] at hrow
  obtain ⟨a, k, rfl⟩ := own_form hrow
  have hl := lies_of_owns hrow
  have HB4 := hid (HB3.out.trans (hb4.mono HB3.out.size))
  have HLI := hid hl
  clear hrow hb4 HTL HR3 HB3 ht hl
  go_wp2_with fail
  have hL2 : Lies (w4.alloc (.cells #[.int .i64 2, .int .i64 1, .int .i64 0] 3)) (some ⟨w4.heap.size, 0, none⟩) [2, 1, 0] := fun q k hk => ⟨_, rfl, by
    rw [cell_of_row _ _ q _ _ _ (heap_alloc_new w4 _)]
    have := pc_at hk
    simpa [pc] using this⟩
  have hB5 : Below w4.heap.size w4 (w4.alloc (.cells #[.int .i64 2, .int .i64 1, .int .i64 0] 3)) := (Below.refl _ _).alloc (Nat.le_refl _) _
  refine (Same_any _ a (some ⟨w4.heap.size, 0, none⟩) k 3 3 [2, 1, 0] rfl (by decide) (HLI.out.below hB5) hL2).mono ?_
  rintro e w6 ⟨rfl, hb6⟩
  have HB6 := hid ((HB4.out.trans (hB5.mono HB4.out.size)).trans (hb6.mono (by have := HB4.out.size; have := hB5.size; omega)))
  clear hL2 hB5 hb6
  go_wp2
  go_ret
  exact ⟨rfl, HB6.out⟩
end Go.Proofs.Ytpcgplcpfbgcfaa
