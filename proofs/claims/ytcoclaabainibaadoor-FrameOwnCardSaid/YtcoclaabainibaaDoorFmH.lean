/-
  The document's example; FrameSums.
-/
import Derived.Test.YtcoclaabainibaaDoorFmG
namespace Go.Proofs.YtcoclaabainibaaDoor
open Go Go.ChangeShapes Go.WideShapes Go.ChangeAt Go.RowKit

/-- The same by a count. -/
def goN : Nat → List Ins → Int → Mo → Mo
  | 0, _, _, m => m
  | k + 1, ls, arg, m => match ls[m.p]? with
    | none => m
    | some x => if 8 ≤ x.op then m else goN k ls arg (stp arg x m)
theorem rest_goN (ls : List Ins) (arg : Int) : ∀ (k : Nat) (m : Mo), ls.length - m.p ≤ k → rest ls arg m = goN k ls arg m
  | 0, m, hk => by rw [rest, dif_neg (by omega)]; rfl
  | k + 1, m, hk => by
    rw [goN]
    cases hx : ls[m.p]? with
    | none =>
      have := List.getElem?_eq_none_iff.1 hx
      rw [rest, dif_neg (by omega)]
    | some x =>
      simp only
      split
      · rename_i h8; exact rest_stop hx h8
      · rename_i h8
        have h1 := stp_lt arg x m
        have h2 := (List.getElem?_eq_some_iff.1 hx).1
        rw [rest_go hx (by omega), rest_goN ls arg k _ (by omega)]
def exF : List Ins := [⟨2, 0, 0⟩, ⟨3, 0, 0⟩, ⟨5, 0, 0⟩, ⟨4, 0, 0⟩, ⟨3, 0, 0⟩, ⟨11, 0, 0⟩]
theorem exF_right : checkP exF 8 = (2, 0, 0) := by decide +kernel
theorem exF_ok : ∀ x ∈ exF, InsOk x := by
  intro x hx
  simp only [exF, List.mem_cons, List.not_mem_nil, or_false] at hx
  rcases hx with rfl | rfl | rfl | rfl | rfl | rfl <;> exact ⟨by unfold J64; decide, by unfold J64; decide, by unfold J64; decide⟩
theorem exF_next : nxE (fs0 exF 5) 0 2 = ⟨1, 0, 0, 7, 0⟩ ∧ nxV (fs0 exF 5) 0 2 = 7 := by
  have hg : goM (fs0 exF 5) 0 2 = ⟨5, [7], 7⟩ := by
    show rest exF 5 ⟨0, [], 2⟩ = _
    rw [rest_goN exF 5 6 _ (by decide)]
    rfl
  unfold nxE nxV goX
  rw [hg]
  exact ⟨rfl, rfl⟩
section
variable {w w' : World} {S : Nat → Prop} {p : Nat} {f : Fs} {qv sv : Value}
theorem FNext_any (h : FmW w S p f qv sv) (hf : FsR f) (r v : Int) : Calls Tryd.prog 11 #[.pointer (some ⟨p, 0, none⟩), iv r, iv v] w (NxP w S p f r v) := by
  cases ho : f.over with
  | true => exact Next_over h ho r v
  | false => exact Next_go h hf ho r v
end
/-- What has turned lies above a bound. -/
theorem fr_up {S : Nat → Prop} {w0 w w' : World} (hb : Below w0.heap.size w0 w) (hS : ∀ k, S k → w0.heap.size ≤ k) (hf : Fr S w w') : Below w0.heap.size w0 w' :=
  hb.trans (hf.below hb.size hS)
def AwF (w0 : World) : Prop := ∀ w : World, Below w0.heap.size w0 w → Calls Tryd.prog 8 #[] w fun e w' => e = .returned (.bool true) ∧ Below w.heap.size w w'
/-- New at an example, called and answered. -/
theorem new_ex {ls : List Ins} {m : Int} (hok : ∀ x ∈ ls, InsOk x) (hr : checkP ls 8 = (m, 0, 0)) (n b : Nat) (arg : Int) (W : World) (hT : TabB W) (h : W.heap[b]? = some (.cells (ls.flatMap insc).toArray TIn (0, 0))) (hn : n = ls.length) (hn2 : n ≤ 100) :
    Calls Tryd.prog 9 #[.slice (some ⟨b, 0, none⟩) n n, iv arg] W fun e w' => Below W.heap.size W w' ∧ ∃ p S qv sv, e = .returned (.tuple #[.pointer (some ⟨p, 0, none⟩), .int .i64 0]) ∧ (∀ k, S k → W.heap.size ≤ k) ∧ FmW w' S p (fs0 ls arg) qv sv :=
  (New_any ls arg (some ⟨b, 0, none⟩) n n W hT hok (rwi_block h) hn (Nat.le_refl _) (by omega)).mono (fun e w' ⟨h1, h2⟩ => ⟨h1, by rw [if_pos (by rw [hr])] at h2; exact h2⟩)
set_option maxRecDepth 100000 in
set_option maxHeartbeats 4000000 in
theorem awake_holds {w : World} (hT : TabB w) : AwF w := fun w1 hb1 => by
  have HC := hid (fun (b : Nat) (W : World) (hb : Below w1.heap.size w1 W) (h : W.heap[b]? = some (.cells (exF.flatMap insc).toArray TIn (0, 0))) => new_ex exF_ok exF_right 6 b 5 W ((hT.on hb1).on hb) h rfl (by decide))
  clear hT hb1
  go_enter Tryd.func8, Tryd.ntmps8
  go_wp2_with fail
  refine (HC.out w1.heap.size _ ((Below.refl _ _).alloc (Nat.le_refl _) _) (heap_alloc_new _ _)).mono ?_
  rintro e w2 ⟨hb2, p, S, qv, sv, rfl, hS, hF⟩
  have hbb := ((Below.refl w1.heap.size w1).alloc (Nat.le_refl _) (.cells (exF.flatMap insc).toArray TIn)).trans (hb2.mono (by simp))
  have hS1 : ∀ k, S k → w1.heap.size ≤ k := fun k hk => Nat.le_trans (by simp) (hS k hk)
  have HB2 := hid hbb
  have HS := hid hS1
  have HN := hid (FNext_any hF (fs0_ok 5 (by rw [exF_right])) 0 2)
  clear hb2 hbb hS hS1 hF HC
  go_wp2_with (first
    | (go_at_call 11; refine HN.out.mono ?_; rintro e w3 ⟨rfl, _, hf3⟩; rw [exF_next.1, exF_next.2]; have HB3 := hid (fr_up HB2.out HS.out hf3); clear hf3)
    | ((with_reducible refine at_op ⟨none, .store TEv (.tmp 3) (.tmp 19), _, _, _, _⟩ ?_); refine wpList_store_row rfl TEv _ _ rfl w3.heap.size (evA ⟨1, 0, 0, 7, 0⟩) rfl rfl TEv (evA evZ) (heap_alloc_new _ _) szEv rfl (evA_one _) ?_)
    | ((with_reducible refine at_op ⟨some 24, _, _, _, _, _⟩ ?_); refine wpList_runW rfl (.agg (evA ⟨1, 0, 0, 7, 0⟩)) (load_ev rfl rfl (setRow_heap _ _ _ _ _ _ (heap_alloc_new _ _))) ?_)
    | ((with_reducible refine at_op ⟨some 26, _, _, _, _, _⟩ ?_); refine wpList_runW rfl (.bool true) (exec_eqEv (x := ⟨1, 0, 0, 7, 0⟩) (y := ⟨1, 0, 0, 7, 0⟩) rfl rfl rfl) ?_)
    | fail)
  go_ret
  exact ⟨rfl, below_setRow (HB3.out.alloc HB3.out.size _) _ _ HB3.out.size⟩
def exG : List Ins := [⟨2, 0, 0⟩, ⟨3, 0, 0⟩, ⟨5, 0, 0⟩, ⟨2, 0, 0⟩, ⟨6, 0, 0⟩, ⟨5, 0, 0⟩, ⟨11, 0, 0⟩]
theorem exG_right : checkP exG 8 = (2, 0, 0) := by decide +kernel
theorem exG_ok : ∀ x ∈ exG, InsOk x := by
  intro x hx
  simp only [exG, List.mem_cons, List.not_mem_nil, or_false] at hx
  rcases hx with rfl | rfl | rfl | rfl | rfl | rfl | rfl <;> exact ⟨by unfold J64; decide, by unfold J64; decide, by unfold J64; decide⟩
theorem sums_wrap (a b : Int) (hb : -9223372036854775808 ≤ b ∧ b ≤ 9223372036854775807) : w64 (w64 (-a) + w64 (b + a)) = b := by
  unfold w64
  rw [IntKind.wrap_i64, IntKind.wrap_i64, IntKind.wrap_i64]
  omega
theorem exG_next (a b : Int) (hb : -9223372036854775808 ≤ b ∧ b ≤ 9223372036854775807) : nxE (fs0 exG a) 0 b = ⟨1, 0, 0, b, 0⟩ ∧ nxV (fs0 exG a) 0 b = b := by
  have hg : goM (fs0 exG a) 0 b = ⟨6, [b], b⟩ := by
    show rest exG a ⟨0, [], b⟩ = _
    rw [rest_goN exG a 7 _ (by show 7 - 0 ≤ 7; omega)]
    show (⟨6, [w64 (w64 (-a) + w64 (b + a))], b⟩ : Mo) = _
    rw [sums_wrap a b hb]
  unfold nxE nxV goX
  rw [hg]
  exact ⟨rfl, rfl⟩
set_option maxRecDepth 100000 in
set_option maxHeartbeats 4000000 in
theorem FrameSums_any {w : World} (hT : TabB w) (a b : Int) (hb : -9223372036854775808 ≤ b ∧ b ≤ 9223372036854775807) : Calls Tryd.prog 6 #[iv a, iv b] w fun e w' => e = .returned (.bool true) ∧ Below w.heap.size w w' := by
  have HC := hid (fun (W : World) (hb : Below w.heap.size w W) (h : W.heap[w.heap.size]? = some (.cells (exG.flatMap insc).toArray TIn (0, 0))) => new_ex exG_ok exG_right 7 w.heap.size a W (hT.on hb) h rfl (by decide))
  have HA := hid (awake_holds hT)
  have HX := hid (exG_next a b hb)
  have d1 : (b == b) = true := by simp
  have d2 : eqE ⟨1, 0, 0, b, 0⟩ ⟨1, 0, 0, b, 0⟩ = true := eqE_iff.2 rfl
  clear hT hb
  go_enter Tryd.func6, Tryd.ntmps6
  go_wp2_with fail
  refine (HC.out _ ((Below.refl _ _).alloc (Nat.le_refl _) _) (heap_alloc_new _ _)).mono ?_
  rintro e w2 ⟨hb2, p, S, qv, sv, rfl, hS, hF⟩
  have hbb := ((Below.refl w.heap.size w).alloc (Nat.le_refl _) (.cells (exG.flatMap insc).toArray TIn)).trans (hb2.mono (by simp))
  have hS1 : ∀ k, S k → w.heap.size ≤ k := fun k hk => Nat.le_trans (by simp) (hS k hk)
  have HB2 := hid hbb
  have HS := hid hS1
  have HN := hid (FNext_any hF (fs0_ok a (by rw [exG_right])) 0 b)
  clear hb2 hbb hS hS1 hF HC
  go_wp2_with (first
    | (go_at_call 11; refine HN.out.mono ?_; rintro e w3 ⟨rfl, _, hf3⟩; rw [HX.out.1, HX.out.2]; have HB3 := hid (fr_up HB2.out HS.out hf3); have HB4 := hid (below_setRow (HB3.out.alloc HB3.out.size (.cells (evA evZ) TEv)) w3.heap.size (evA ⟨1, 0, 0, b, 0⟩) HB3.out.size); clear hf3)
    | ((with_reducible refine at_op ⟨none, .store TEv (.tmp 7) (.tmp 26), _, _, _, _⟩ ?_); refine wpList_store_row rfl TEv _ _ rfl w3.heap.size (evA ⟨1, 0, 0, b, 0⟩) rfl rfl TEv (evA evZ) (heap_alloc_new _ _) szEv rfl (evA_one _) ?_)
    | ((with_reducible refine at_op ⟨some 31, _, _, _, _, _⟩ ?_); refine wpList_runW rfl (.agg (evA ⟨1, 0, 0, b, 0⟩)) (load_ev rfl rfl (setRow_heap _ _ _ _ _ _ (heap_alloc_new _ _))) ?_)
    | ((with_reducible refine at_op ⟨some 34, _, _, _, _, _⟩ ?_); refine wpList_runW rfl (.bool true) (by rw [exec_eqEv (x := ⟨1, 0, 0, b, 0⟩) (y := ⟨1, 0, 0, b, 0⟩) rfl rfl rfl, d2]) ?_)
    | (go_at_call 8; refine (HA.out _ HB4.out).mono ?_; rintro e w5 ⟨rfl, hb5⟩; have HB5 := hid (HB4.out.trans (hb5.mono HB4.out.size)); clear hb5)
    | fail)
  go_ret
  exact ⟨rfl, HB5.out⟩
end Go.Proofs.YtcoclaabainibaaDoor
