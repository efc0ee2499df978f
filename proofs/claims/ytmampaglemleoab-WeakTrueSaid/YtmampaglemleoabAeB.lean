/-
  Frames by footprint; the contracts of an arena's takePlace.
-/
import Derived.Test.YtmampaglemleoabAeA
import Derived.Test.YtmampaglemleoabFr
import Derived.Test.YtmampaglemleoabMix
import Derived.Below
import Derived.OwnWalk
namespace Go.Proofs.Ytmampaglemleoab
open Go.ChangeShapes Go.WideShapes Go.ChangeAt Go.RowKit

theorem ArW.lt {w : World} {p : Nat} {cv fv : Value} {A : Ar} {c : Nat} (h : ArW w p cv fv A c) : p < w.heap.size := (Array.getElem?_eq_some_iff.1 h.hp).1
theorem ArW.fr {w w' : World} {p : Nat} {cv fv : Value} {A : Ar} {c : Nat} {fp : Nat → Prop} (h : ArW w p cv fv A c) (hf : Fr fp w w') (hp : ¬ fp p) (hc : ∀ k, cv.ownBlock = some k → ¬ fp k) (hv : ∀ k, fv.ownBlock = some k → ¬ fp k) : ArW w' p cv fv A c :=
  ⟨by rw [hf.block p h.lt hp]; exact h.hp, hf.owns h.hc hc, hf.owns h.hf hv, h.d1, h.d2, h.d3⟩

/-- The places' row is another one, or has turned. -/
theorem ArW.newc {w w' : World} {p : Nat} {cv cv' fv : Value} {A : Ar} {c c' : Nat} (h : ArW w p cv fv A c) (L' : List Spot) (hfr : Fr (fun k => k = p ∨ cv.ownBlock = some k) w w')
    (hp : w'.heap[p]? = some (.cells #[.int .i64 A.most, .int .u32 A.first, cv', fv, .int .i64 c'] 89 (0, 0))) (hc : w'.ownsRow 0 101 3 cv' L'.length (rowE L'))
    (hown : ∀ k, cv'.ownBlock = some k → cv.ownBlock = some k ∨ w.heap.size ≤ k) : ArW w' p cv' fv { A with L := L' } c' :=
  ⟨hp, hc, hfr.owns h.hf (fun k hk e => by
      rcases e with rfl | e
      · exact h.d2 hk
      · exact h.d3 k e hk), fun e => by
      rcases hown p e with e | e
      · exact h.d1 e
      · have := h.lt; omega, h.d2, fun k hk e => by
      rcases hown k hk with e2 | e2
      · exact h.d3 k e2 e
      · have := (h.hf.lt k e).2; omega⟩
/-- The free places' row is another one, or has turned. -/
theorem ArW.newf {w w' : World} {p : Nat} {cv fv fv' : Value} {A : Ar} {c c' : Nat} (h : ArW w p cv fv A c) (F' : List Nat) (hfr : Fr (fun k => k = p ∨ fv.ownBlock = some k) w w')
    (hp : w'.heap[p]? = some (.cells #[.int .i64 A.most, .int .u32 A.first, cv, fv', .int .i64 c'] 89 (0, 0))) (hf : w'.ownsRow 0 3 1 fv' F'.length (rowF F'))
    (hown : ∀ k, fv'.ownBlock = some k → fv.ownBlock = some k ∨ w.heap.size ≤ k) : ArW w' p cv fv' { A with F := F' } c' :=
  ⟨hp, hfr.owns h.hc (fun k hk e => by
      rcases e with rfl | e
      · exact h.d1 hk
      · exact h.d3 k hk e), hf, h.d1, fun e => by
      rcases hown p e with e | e
      · exact h.d2 e
      · have := h.lt; omega, fun k hk e => by
      rcases hown k e with e2 | e2
      · exact h.d3 k hk e2
      · have := (h.hc.lt k hk).2; omega⟩

theorem infoCE : (Try.prog.info? 101).map (fun i => (i.zero, i.size, i.bytes)) = some (some (.agg #[.pointer none, .int .u32 0, .bool false]), 3, 16) := by kernel_rfl
theorem infoNE : (Try.prog.info? 3).map (fun i => (i.zero, i.size, i.bytes)) = some (some (.int .i64 0), 1, 8) := by kernel_rfl

/-- takePlace: a place that was dropped is taken again. -/
theorem take_again (w : World) (p : Nat) (cv fv : Value) (A : Ar) (c i : Nat) (F : List Nat) (h : ArW w p cv fv A c) (hF : A.F = F ++ [i]) (hl : A.F.length ≤ 65536) :
    Calls Try.prog 43 #[.pointer (some ⟨p, 0, none⟩)] w fun e w' => ∃ g k, fv = .slice (some ⟨g, 0, none⟩) (F.length + 1) k ∧ e = .returned (.tuple #[.int .i64 i, .bool true]) ∧ w' = w.setCell ⟨p, 3, none⟩ (.slice (some ⟨g, 0, none⟩) F.length k) := by
  have hlen : A.F.length = F.length + 1 := by rw [hF]; simp
  have hf := h.hf
  obtain ⟨g, k, hfv, _⟩ := hf.form (by omega)
  have c3 := h.c3
  have z3 := h.fz 3
  have hcell := hf
  rw [hfv] at hcell c3
  rw [hlen] at hcell c3 hfv
  have hx := hcell.cellAt F.length (by omega)
  rw [hF] at hx
  simp only [rowF, List.map_append, List.map_cons, List.map_nil] at hx
  rw [List.getElem?_append_right (by simp)] at hx
  simp at hx
  have hk : F.length + 1 ≤ k := by
    rcases hcell.2 with ⟨h1, _⟩ | ⟨g', cap', cur, hv, hb, hg, hn, _⟩
    · cases h1
    · cases hv; exact hn
  generalize F.length = n at *
  clear hcell hf h hF
  have HV := hid hfv
  clear hfv
  go_enter Try.func43, Try.ntmps43
  go_wp2
  go_ret2
  exact ⟨g, k, HV.out, rfl, rfl⟩
/-- takePlace: there is none. -/
theorem take_none (w : World) (p : Nat) (cv fv : Value) (A : Ar) (c : Nat) (h : ArW w p cv fv A c) (hA : Ok A) (hF : Full A) :
    Calls Try.prog 43 #[.pointer (some ⟨p, 0, none⟩)] w fun e w' => e = .returned (.tuple #[.int .i64 0, .bool false]) ∧ Fr (fun _ => False) w w' := by
  obtain ⟨a, k, hcv⟩ := h.shape
  obtain ⟨a', k', hfv⟩ := h.shapeF
  have c0 := h.c0
  have c2 := h.c2
  have c3 := h.c3
  have hl := hA.m2
  rw [hcv, hF.2] at c2
  rw [hfv, hF.1, List.length_nil] at c3
  clear hcv hfv h hF
  generalize A.most = m at *
  go_enter Try.func43, Try.ntmps43
  go_wp2
  go_quiet (fail)
  go_wp2
  go_ret2
  exact ⟨rfl, (Fr.refl _ _).drewN _⟩
/-- takePlace: a place where nothing ever was. -/
theorem take_fresh (w : World) (p : Nat) (cv fv : Value) (A : Ar) (c : Nat) (h : ArW w p cv fv A c) (hA : Ok A) (hF : A.F = []) (hlt : A.L.length < A.most) :
    Calls Try.prog 43 #[.pointer (some ⟨p, 0, none⟩)] w fun e w' => ∃ cv', e = .returned (.tuple #[.int .i64 A.L.length, .bool true]) ∧ ArW w' p cv' fv { A with L := A.L ++ [⟨0, A.first, false⟩] } c ∧
      Fr (fun k => k = p ∨ cv.ownBlock = some k) w w' ∧ (∀ k, cv'.ownBlock = some k → cv.ownBlock = some k ∨ w.heap.size ≤ k) := by
  obtain ⟨a, k, hcv⟩ := h.shape
  obtain ⟨a', k', hfv⟩ := h.shapeF
  have c0 := h.c0
  have c1 := h.c1
  have c2 := h.c2
  have c3 := h.c3
  have z2 := h.fz 2
  have hl := hA.m2
  rw [hcv] at c2
  rw [hfv, hF, List.length_nil] at c3
  obtain ⟨i0, hi, hz0, hz1, hz2⟩ := info_parts infoCE
  have hi' := hid hi
  have hz0' := hid hz0
  have hz1' := hid hz1
  have hz2' := hid hz2
  have hcv' := hid hcv
  have hfv' := hid hfv
  have hF' := hid hF
  clear hi hz0 hz1 hz2 hcv hfv hF
  have hc := h.hc
  have hplt := h.lt
  have hd1 := h.d1
  generalize hn : A.L.length = n at *
  have hn' := hid hn
  clear hn
  go_enter Try.func43, Try.ntmps43
  go_wp2
  go_quiet (fail)
  go_wp2
  refine wp_region_mix [0, 0, 0, 0, 1, 0, 0, 0, 1, 0, 2, 2, 0, 0, 3] (fun W => W.cell? ⟨p, 1, none⟩ = some (.int .u32 A.first) ∧ W.cell? ⟨p, 2, none⟩ = some (.slice a n k)) (by kernel_rfl) (by kernel_rfl) ⟨by simpa using c1, by simpa using c2⟩ ?_
  repeat (first
    | (refine' wpMix_value _ rfl rfl _ _; rotate_left; (solve | (intro W; go_simp) | (intro W; go_simp; with_reducible rfl)); simp only [Act.put, List.setIfInBounds_toArray, List.set_cons_zero, List.set_cons_succ])
    | (refine' wpMix_read _ rfl rfl _ _; rotate_left; (solve | (rintro W ⟨h1, h2⟩; go_simp) | (rintro W ⟨h1, h2⟩; go_simp; with_reducible rfl)); simp only [Act.put, List.setIfInBounds_toArray, List.set_cons_zero, List.set_cons_succ]))
  clear c0 c3
  obtain ⟨w2, hw2⟩ : ∃ w2, w2 = w.drewN (nq + 1) := ⟨_, rfl⟩
  rw [World.drew_drewN, ← hw2]
  have hc2 : w2.ownsRow 0 101 3 (.slice a n k) n (rowE A.L) := by rw [hw2, ← hcv'.out]; exact hc
  have c12 : w2.cell? ⟨p, 1, none⟩ = some (.int .u32 A.first) := by rw [hw2]; exact c1
  have c22 : w2.cell? ⟨p, 2, none⟩ = some (.slice a n k) := by rw [hw2]; exact c2
  have hp2 : p < w2.heap.size := by rw [hw2]; exact hplt
  have HW := hid hw2
  have HC := hid hc2
  clear hw2 hc hc2
  refine wpMix_write (.slice (some ⟨w2.heap.size, 0, none⟩) 1 1) (w2.alloc (.cells #[.pointer none, .int .u32 A.first, .bool false] 101)) (by decide) rfl ?nrun1 ?nS1 ?nrest1
  case nrun1 => go_simp
  case nS1 => exact fun _ => ⟨by rw [World.cell?_of_block (Below.heap_alloc _ _ _ hp2)]; exact c12, by rw [World.cell?_of_block (Below.heap_alloc _ _ _ hp2)]; exact c22⟩
  simp only [Act.put, List.setIfInBounds_toArray, List.set_cons_zero, List.set_cons_succ]
  refine wpMix_append (by decide) rfl (.tmp 45) (.tmp 51) 87 rfl 0 101 i0 _ 3 16 Try.underlying87 hi'.out hz0'.out hz1'.out hz2'.out rfl (by decide) (.slice a n k) n _ rfl (HC.out.alloc _) ⟨w2.heap.size, 0, none⟩ 1 1 [.pointer none, .int .u32 A.first, .bool false] rfl rfl (World.news_of_block (heap_alloc_new _ _)) (by simp [Value.oneCell']) (by decide) (by unfold maxLen; omega) (by omega) (Nat.zero_le _) (w2.heap.size + 1) (by simp) ?_
  intro g3 k3 w3 hown3 hgrow3 hat3 hlt3
  have hd1' : (Value.slice a n k).ownBlock ≠ some p := by rw [← hcv'.out]; exact hd1
  have hb3 : w3.heap[p]? = w2.heap[p]? := by
    rw [hgrow3.block p (by simp; omega) (fun e => hd1' e.symm)]; exact Below.heap_alloc _ _ _ hp2
  have c13 : w3.cell? ⟨p, 1, none⟩ = some (.int .u32 A.first) := (World.cell?_of_block hb3).trans c12
  have c23 : w3.cell? ⟨p, 2, none⟩ = some (.slice a n k) := (World.cell?_of_block hb3).trans c22
  have z23 : w3.frozen? ⟨p, 2, none⟩ = false := by rw [World.frozen?_of_block hb3, HW.out]; exact z2
  refine ⟨fun _ => ⟨c13, c23⟩, ?_⟩
  have HO := hid hown3
  have HG := hid hgrow3
  have HA3 := hid hat3
  have HB := hid hb3
  clear hown3 hgrow3 hat3 c12 c22 c1 c2 z2 hb3
  simp only [Act.put, List.setIfInBounds_toArray, List.set_cons_zero, List.set_cons_succ]
  repeat (first
    | (refine' wpMix_value _ rfl rfl _ _; rotate_left; (solve | (intro W; go_simp) | (intro W; go_simp; with_reducible rfl)); simp only [Act.put, List.setIfInBounds_toArray, List.set_cons_zero, List.set_cons_succ]))
  refine wpMix_skip (w3.setCell ⟨p, 2, none⟩ (.slice (some ⟨g3, 0, none⟩) (n + 1) k3)) (by decide) rfl ?nrun2 (fun h => by cases h) ?nrest2
  case nrun2 => go_simp
  simp only [Act.put]
  refine wpMix_end ?_
  go_wp2
  have hg3 : ∀ k, (Value.slice (some ⟨g3, 0, none⟩) (n + 1) k3).ownBlock = some k → cv.ownBlock = some k ∨ w.heap.size ≤ k := fun k hk => by
    simp [Value.ownBlock] at hk
    subst hk
    rcases HA3.out with e | e
    · left; rw [hcv'.out]; exact e
    · right; have : w2.heap.size = w.heap.size := by rw [HW.out]; rfl
      omega
  have hfr : Fr (fun k => k = p ∨ cv.ownBlock = some k) w (w3.setCell ⟨p, 2, none⟩ (.slice (some ⟨g3, 0, none⟩) (n + 1) k3)) := by
    refine Fr.setCell ?_ _ _ (fun _ => .inl rfl)
    have h2 : Fr (fun k => k = p ∨ cv.ownBlock = some k) w w2 := by rw [HW.out]; exact (Fr.refl _ _).drewN _
    exact (h2.alloc _).grown HG.out (fun k hk _ => .inr (by rw [hcv'.out]; exact hk))
  have hg3p : g3 ≠ p := fun e => by
    rcases hg3 p (by simp [Value.ownBlock, e]) with e | e
    · exact hd1 e
    · omega
  have hpw : w3.heap[p]? = some (.cells #[.int .i64 A.most, .int .u32 A.first, cv, fv, .int .i64 c] 89 (0, 0)) := by
    rw [HB.out, HW.out]; exact h.hp
  have hnew := h.newc (A.L ++ [⟨0, A.first, false⟩]) hfr (by rw [heap_setCell_same _ _ _ _ _ _ hpw]; rfl) (cv' := .slice (some ⟨g3, 0, none⟩) (n + 1) k3) (c' := c)
    (by
      rw [List.length_append, hn'.out, rowE_append]
      exact ownsRow_setCell_other HO.out (by simp [Value.ownBlock]; exact hg3p) _) hg3
  have hnew' := hid hnew
  have hfr' := hid hfr
  have hg3' := hid hg3
  clear hnew hfr hg3 hpw hg3p h
  go_ret2
  exact ⟨_, rfl, hnew'.out, hfr'.out, hg3'.out⟩
end Go.Proofs.Ytmampaglemleoab
