/-
  The document's examples.
-/
import Derived.Test.YtidbdmggpljlcaaDoorCkE
import Derived.Test.YtidbdmggpljlcaaDoorCdU
namespace Go.Proofs.YtidbdmggpljlcaaDoor
open Go Go.ChangeShapes Go.WideShapes Go.ChangeAt Go.RowKit

theorem check_holds {w : World} (hT : TabB w) : CkC w := fun ls s ad n c W hb hok hs hR hN hc hc2 => Check_any ls s ad n c W (hT.on hb) hok hs hR hN hc hc2
def exA : List Ins := [⟨2, 0, 0⟩, ⟨3, 0, 0⟩, ⟨5, 0, 0⟩, ⟨11, 0, 0⟩]
def exB : List Ins := [⟨3, 0, 0⟩, ⟨7, 1, 0⟩, ⟨11, 0, 0⟩]
theorem ex_a : checkP exA 0 = (2, 0, 0) := by decide +kernel
theorem ex_b : checkP exB 0 = (0, 1, 5) := by decide +kernel
theorem ex_aOk : ∀ x ∈ exA, InsOk x := by
  intro x hx
  simp only [exA, List.mem_cons, List.not_mem_nil, or_false] at hx
  rcases hx with rfl | rfl | rfl | rfl <;> exact ⟨by unfold J64; decide, by unfold J64; decide, by unfold J64; decide⟩
theorem ex_bOk : ∀ x ∈ exB, InsOk x := by
  intro x hx
  simp only [exB, List.mem_cons, List.not_mem_nil, or_false] at hx
  rcases hx with rfl | rfl | rfl <;> exact ⟨by unfold J64; decide, by unfold J64; decide, by unfold J64; decide⟩
theorem rwi_block {W : World} {b : Nat} {t : TypeId} {fr : Nat × Nat} {ls : List Ins} (h : W.heap[b]? = some (.cells (ls.flatMap insc).toArray t fr)) : RwI W W.heap.size (some ⟨b, 0, none⟩) ls :=
  ⟨fun _ => ⟨b, 0, rfl, (Array.getElem?_eq_some_iff.1 h).1⟩, fun b' o' he i x hx j u hu => by
    cases he
    have hj : j < 3 := (List.getElem?_eq_some_iff.1 hu).1
    have h2 := flatI_get hj hx
    rw [hu] at h2
    simp only [World.cell?, h, Nat.zero_add, List.getElem?_toArray, h2]
    rfl⟩
set_option maxRecDepth 100000 in
set_option maxHeartbeats 4000000 in
theorem awake_holds {w : World} (hT : TabB w) : AwC w := fun w1 hb1 => by
  have HC := hid (fun (ls : List Ins) (n b : Nat) (W : World) (hb : Below w1.heap.size w1 W) (hok : ∀ x ∈ ls, InsOk x) (h : W.heap[b]? = some (.cells (ls.flatMap insc).toArray 32 (0, 0))) (hn : n = ls.length) (hn2 : n ≤ 100) =>
    Check_any ls 0 (some ⟨b, 0, none⟩) n n W ((hT.on hb1).on hb) hok (by unfold J64; decide) (rwi_block h) hn (Nat.le_refl _) (by omega))
  clear hT hb1
  go_enter Tryd.func10, Tryd.ntmps10
  go_wp2_with fail
  refine (HC.out exA 4 w1.heap.size _ ((Below.refl _ _).alloc (Nat.le_refl _) _) ex_aOk (heap_alloc_new _ _) rfl (by decide)).mono ?_
  rintro e w2 ⟨rfl, hb2⟩
  rw [ex_a]
  have HB2 := hid (((Below.refl w1.heap.size w1).alloc (Nat.le_refl _) (.cells (exA.flatMap insc).toArray 32)).trans (hb2.mono (by simp)))
  clear hb2
  go_wp2_with fail
  refine (HC.out exB 3 w2.heap.size _ (HB2.out.alloc HB2.out.size _) ex_bOk (heap_alloc_new _ _) rfl (by decide)).mono ?_
  rintro e w3 ⟨rfl, hb3⟩
  rw [ex_b]
  have HB3 := hid (HB2.out.trans ((((Below.refl w2.heap.size w2).alloc (Nat.le_refl _) (.cells (exB.flatMap insc).toArray 32)).trans (hb3.mono (by simp))).mono HB2.out.size))
  clear hb3 HC
  go_wp2
  go_ret
  exact ⟨rfl, HB3.out⟩
end Go.Proofs.YtidbdmggpljlcaaDoor
