/-
  The plain twin's Most and Name.
-/
import Derived.Test.YtidbdmggpljlcaaDoorCdD
namespace Go.Proofs.YtidbdmggpljlcaaDoor
open Go Go.ChangeShapes Go.WideShapes Go.ChangeAt Go.RowKit

/-- The greatest height behind one of the first ones. -/
def mostP (ls : List Ins) (s : Int) (h : List Int) : Nat → Int
  | 0 => 0
  | i + 1 => match ls[i]? with
    | none => mostP ls s h i
    | some x => max (mostP ls s h i) (leftP x s (h.getD i 0))
theorem most_small {ls : List Ins} {s : Int} {h : List Int} {m : Nat} (hs : ∀ k, k < m → ∀ x, ls[k]? = some x → 0 ≤ leftP x s (h.getD k 0) ∧ leftP x s (h.getD k 0) ≤ 8) : ∀ i, i ≤ m → 0 ≤ mostP ls s h i ∧ mostP ls s h i ≤ 8 := by
  intro i hi
  induction i with
  | zero => exact ⟨Int.le_refl 0, show (0 : Int) ≤ 8 by decide⟩
  | succ i ih =>
    obtain ⟨h1, h2⟩ := ih (by omega)
    rw [mostP]
    split
    · exact ⟨h1, h2⟩
    · rename_i x hx
      obtain ⟨h3, h4⟩ := hs i (by omega) x hx
      omega
set_option maxRecDepth 100000 in
set_option maxHeartbeats 4000000 in
theorem Most_any (ls : List Ins) (s : Int) (ad : Option Addr) (n c : Nat) (h : List Int) (hd : Option Addr) (m hc : Nat) (w : World) (hr : RwI w w.heap.size ad ls) (hn : n = ls.length) (hcc : n ≤ c) (hm : m = h.length) (hmn : m ≤ n) (hmc : m ≤ hc) (hm3 : n ≤ 1000)
    (hh : ∀ j, j < m → ∃ g o, hd = some ⟨g, o, none⟩ ∧ g < w.heap.size ∧ AtL w g o (i64l h))
    (hs : ∀ k, k < m → ∀ x, ls[k]? = some x → (0 ≤ h.getD k 0 ∧ h.getD k 0 ≤ 10) ∧ 0 ≤ leftP x s (h.getD k 0) ∧ leftP x s (h.getD k 0) ≤ 8) :
    Calls Tryd.prog 13 #[.slice ad n c, .slice hd m hc, .int .i64 s] w fun e w' => e = .returned (.int .i64 (mostP ls s h m)) ∧ Below w.heap.size w w' := by
  have HR := hid hr
  have HN := hid hn
  have HM := hid hm
  have HH := hid hh
  have HS := hid hs
  have HMS := hid (most_small (fun k hk x hx => (hs k hk x hx).2))
  have hcc1 := hcc
  have hmc1 := hmc
  clear hr hn hm hh hs hcc hmc
  go_enter Tryd.func13, Tryd.ntmps13
  go_wp2
  go_loopw [7, 8] (fun mv iv wr => ∃ i : Nat, i ≤ m ∧ iv = .int .i64 i ∧ mv = .int .i64 (mostP ls s h i) ∧ RowKit.Hid (Below w.heap.size w wr)) (fun _ iv _ => m - (intOf iv).toNat)
  case atStart => exact ⟨0, by omega, rfl, rfl, hid (Below.refl _ _)⟩
  case round =>
    obtain ⟨i, hi, rfl, rfl, HB⟩ := hrel
    by_cases him : i < m
    · obtain ⟨x, hx⟩ : ∃ x, ls[i]? = some x := ⟨_, List.getElem?_eq_getElem (by have := HN.out; omega)⟩
      obtain ⟨b, o, rfl, _⟩ := HR.out.at_ (by have := HN.out; omega)
      obtain ⟨g, o2, rfl, hg, hat⟩ := HH.out i him
      have hlt : i < h.length := by have := HM.out; omega
      have HCE := hid (show ∀ W, Below w.heap.size w W → W.cell? ⟨g, o2 + i, none⟩ = some (.int .i64 (h.getD i 0)) from fun W hW => by
        have h1 := hat i (.int .i64 (h.getD i 0)) (by simp [i64l, hlt])
        exact (World.cell?_of_block (w := w) (w' := W) (a := ⟨g, o2 + i, none⟩) (hW.block g hg)).trans h1)
      have HAT := hid ((HR.out.on HB.out).rows b o rfl i x hx)
      have HST := hid (show mostP ls s h (i + 1) = max (mostP ls s h i) (leftP x s (h.getD i 0)) by rw [mostP, hx])
      have HSX := hid (HS.out i him x hx)
      have HMI := hid (HMS.out i (by omega))
      clear hx hat hlt
      obtain ⟨mo, hmo⟩ : ∃ mo, mo = mostP ls s h i := ⟨_, rfl⟩
      rw [← hmo] at HST HMI ⊢
      clear hmo
      go_wp2_with (first | ((with_reducible refine at_op ⟨some 22, _, _, _, _, _⟩ ?_); refine wpList_runW rfl (.agg (insA x)) (load_ia rfl rfl HAT.out) ?_) | fail)
      refine (shape_any x s _).mono ?_
      rintro e w2 ⟨rfl, hb2⟩
      have HB2 := hid (below_on HB.out hb2)
      have hcell := HCE.out w2 HB2.out
      unfold shV
      have HLF := hid (show leftP x s (h.getD i 0) = h.getD i 0 - (shapeP x s).1 + (shapeP x s).2.1 from rfl)
      have hsl := shape_le x s
      obtain ⟨⟨s1, s2⟩, s3, s4⟩ := HSX.out
      obtain ⟨lf, hlf⟩ : ∃ lf, lf = leftP x s (h.getD i 0) := ⟨_, rfl⟩
      rw [← hlf] at HLF HST s3 s4
      generalize (shapeP x s).1 = tk at *
      generalize (shapeP x s).2.1 = la at *
      generalize h.getD i 0 = hk at *
      have w1 : IntKind.i64.wrap (hk - tk) = hk - tk := IntWalk.i64_in _ (by omega)
      have w2e : IntKind.i64.wrap (hk - tk + la) = lf := by rw [HLF.out]; exact IntWalk.i64_in _ (by omega)
      clear hlf hsl hb2 HSX
      go_wp2
      go_roundw
      case rel => exact ⟨i + 1, by omega, by go_num, by rw [HST.out], HB2⟩
      case measure => simp [intOf]; omega
    · obtain rfl : i = m := by omega
      clear him
      go_wp2
      go_ret
      exact ⟨rfl, HB.out⟩
end Go.Proofs.YtidbdmggpljlcaaDoor
