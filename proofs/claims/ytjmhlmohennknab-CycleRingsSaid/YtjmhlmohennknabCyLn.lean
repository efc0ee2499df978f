/-
  The walk of CycleNil.
-/
import Derived.Test.YtjmhlmohennknabCyLa
namespace Go.Proofs.Ytjmhlmohennknab
open Go Go.ChangeShapes Go.WideShapes Go.ChangeAt Go.RowKit

theorem GrW.nil_ (B : Nat) (W : World) : GrW B W (.slice none 0 0) (.slice none 0 0) [] [] :=
  ⟨⟨none, 0, rfl, by simp, by omega, fun h => by simp at h⟩, ⟨none, 0, rfl, by simp, by omega, fun h => by simp at h⟩, (fun c h => by cases h), (fun l h => by cases h)⟩
theorem wi_zero (l : List Int) : wi 0 l = [] := by
  unfold wi
  rw [List.filter_eq_nil_iff.2 (fun x _ => by simp)]
  rfl
theorem begin_over {w w' : World} {p B0 B1 : Nat} {cs : List Int} {es : List (List Int)} {L : List Nat} {n : Int} {e : Ending} (hn : cs.length ≤ 1000) (h : StepPost w p B0 B1 (grOf cs es (fun i => i ∈ L)) (begS cs L) n e w') (hb : (8 * (cs.length + 1 + totE es) : Nat) ≤ n) : ∃ s, e = .returned (.bool true) ∧ Rn w' p B0 B1 (grOf cs es (fun i => i ∈ L)) s ∧ CyJ (grOf cs es (fun i => i ∈ L)) s ∧ Below B0 w w' ∧ s.sw = 3 ∧ s.found = (grOf cs es (fun i => i ∈ L)).garb ∧ s.found.length ≤ 100000 := by
  obtain ⟨s, rfl, h1, h2, h3, h4, _⟩ := h
  have hs4 : s.sw = 3 := by
    have h5 := h2.sw
    by_cases h6 : s.sw < 3
    · have h7 := h4 h6
      have h8 := Phi_new (g := grOf cs es (fun i => i ∈ L)) (s := begS cs L) rfl rfl rfl
      have h9 : tot (grOf cs es (fun i => i ∈ L)).e (grOf cs es (fun i => i ∈ L)).n ≤ totE es := tot_grOf _ _ _
      have h10 : (grOf cs es (fun i => i ∈ L)).n = cs.length := rfl
      omega
    · omega
  refine ⟨s, by rw [hs4]; rfl, h1, h2, h3, hs4, h2.s3 hs4, ?_⟩
  have := h2.fl
  have h10 : (grOf cs es (fun i => i ∈ L)).n = cs.length := rfl
  omega
theorem garb_none (su : List Int) : (grOf [] [] (fun i => i ∈ wi ([] : List Int).length su)).garb = [] := by
  unfold Gr.garb
  rfl
set_option maxRecDepth 100000 in
set_option maxHeartbeats 4000000 in
theorem CycleNil_any (w : World) (n : Int) (sv : Value) (su : List Int) (hn : -9223372036854775808 ≤ n ∧ n ≤ 9223372036854775807) (hS : Tl iv w.heap.size w sv su) :
    Calls Try.prog 7 #[.int .i64 n, sv] w fun e w' => e = .returned (.bool true) ∧ Below w.heap.size w w' := by
  have HBEG := hid (Begin_any w (.slice none 0 0) (.slice none 0 0) sv [] [] su (GrW.nil_ _ _) hS (by simp) (fun l h => by cases h) (by rw [show ([] : List Int).length = 0 from rfl, wi_zero]; simp))
  have HN := hid hn
  clear hS hn
  go_enter Try.func7, Try.ntmps7
  go_wp2_with fail
  refine HBEG.out.mono ?_
  rintro e w1 ⟨p, B1, rfl, hR, hb1⟩
  have hok : GrOk (grOf [] [] (fun i => i ∈ wi ([] : List Int).length su)) := grS_ok (fun c h => by cases h)
  have hsz : GrSz (grOf [] [] (fun i => i ∈ wi ([] : List Int).length su)) := grS_sz (Nat.zero_le _) (Nat.zero_le _)
  have hst : Calls Try.prog 18 #[.pointer (some ⟨p, 0, none⟩), .int .i64 8] w1 fun e w' => e = .returned (.bool true) ∧ Below w.heap.size w1 w' ∧ ∃ s, Rn w' p w.heap.size B1 (grOf [] [] (fun i => i ∈ wi ([] : List Int).length su)) s ∧ s.sw = 3 ∧ s.found = [] :=
    (Step_any hR begS_ok hok hsz 8 ⟨by decide, by decide⟩).mono fun e w' h => by
      obtain ⟨s2, rfl, hR2, _, hb2, hs2, hf2, _⟩ := begin_over (cs := []) (es := []) (L := wi ([] : List Int).length su) (Nat.zero_le _) h (by decide)
      exact ⟨rfl, hb2, s2, hR2, hs2, hf2.trans (garb_none su)⟩
  have HST := hid hst
  have HB1 := hid hb1
  clear hR hb1 HBEG hok hsz hst
  go_wp2_with fail
  refine (Step_nil _ _).mono ?_
  rintro e w1' ⟨rfl, rfl⟩
  go_wp2_with (first
    | (go_at_call 17; with_reducible refine (RGar_nil _).mono ?_; rintro e w1' ⟨rfl, rfl⟩)
    | (go_at_call 18; refine HST.out.mono ?_; rintro e w2 ⟨rfl, hb2, s2, hR2, hs2, hf2⟩; have hg2 := RGar_over hR2 hs2 (by rw [hf2]; exact Nat.zero_le _); rw [hf2] at hg2; have HG2 := hid hg2; have HB2 := hid (HB1.out.trans hb2); clear hR2 hb2 hs2 hf2 hg2)
    | (go_at_call 17; refine HG2.out.mono ?_; rintro e w3 ⟨v3, rfl, hT3, hb3⟩; obtain ⟨a3, c3, rfl, _⟩ := hT3.ex; have HB3 := hid (HB2.out.trans (hb3.mono HB2.out.size)); clear hT3 hb3)
    | (go_at_call 15; refine (Bound_any _ _ _ [] [] (GrW.nil_ _ _) (by simp) (by simp [totE])).mono ?_; rintro e w4 ⟨rfl, hb4⟩; have HB4 := hid (HB3.out.trans (hb4.mono HB3.out.size)); clear hb4)
    | (go_at_call 10; refine (awake_any _).mono ?_; rintro e w9 ⟨rfl, hb9⟩; have HB9 := hid (HB4.out.trans (hb9.mono HB4.out.size)); clear hb9)
    | fail)
  go_ret
  exact ⟨rfl, HB9.out⟩
end Go.Proofs.Ytjmhlmohennknab
