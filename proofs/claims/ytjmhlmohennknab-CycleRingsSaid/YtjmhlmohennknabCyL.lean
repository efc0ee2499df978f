/-
  The contract of look.
-/
import Derived.Test.YtjmhlmohennknabCyP
import Derived.Test.YtjmhlmohennknabRowIn
import Derived.Deep.Cut
namespace Go.Proofs.Ytjmhlmohennknab
open Go Go.ChangeShapes Go.WideShapes Go.ChangeAt Go.RowKit

section
variable {w w' : World} {p B0 B1 : Nat} {g : Gr} {s : CyS} {nv wv fv : Value} {fp : Nat → Prop}
theorem NdW.atl {q n : Nat} {e : Nat → List Nat} {col : Nat → Nat} {held : Nat → Int} (h : NdW w p q B0 B1 n e col held nv) {i : Nat} (hi : i < n) : ∃ ev, AtL w q (i * 3) [nI (col i), iv (held i), ev] ∧ EdW B1 p q w ev (e i) := by
  obtain ⟨ev, h2, h3⟩ := h.c2 hi
  refine ⟨ev, fun j v hv => ?_, h3⟩
  match j, hv with
  | 0, hv => simp at hv; subst hv; exact h.c0 hi
  | 1, hv => simp at hv; subst hv; exact h.c1 hi
  | 2, hv => simp at hv; subst hv; exact h2
  | j + 3, hv => simp at hv
theorem RunW.pushF (h : RunW w p B0 B1 g s nv wv fv) (hs : s.sw < 3) {w2 : World} {v' : Value} {j : Nat} {o : Obj} (hQ : OwI B1 w2 v' (s.found ++ [j])) (hg : (w.alloc o).grownBy w2 fv.ownBlock) (hat : v'.ownBlock = fv.ownBlock ∨ v'.ownBlock = some (w.alloc o).heap.size) :
    RunW (w2.setCell ⟨p, 5, none⟩ v') p B0 B1 g { s with found := s.found ++ [j] } nv wv v' ∧ Below B0 w (w2.setCell ⟨p, 5, none⟩ v') := by
  have hfr : Fr (fun k => fv.ownBlock = some k) w w2 := ((Fr.refl _ _).alloc o).grown hg (fun k hk _ => hk)
  have hb1 := h.b1
  have hp1 := h.p1
  have hp0 := h.p0
  have hlt := h.lt
  have hfb : ∀ k, fv.ownBlock = some k → B1 ≤ k := fun k hk => (World.ownsRow.lt h.fo k hk).1
  have hbel : Below B0 w w2 := hfr.below (by omega) (fun k hk => by have := hfb k hk; omega)
  have hsz := hfr.size
  have hfs : Fr (fun b => b = p) w2 (w2.setCell ⟨p, 5, none⟩ v') := (Fr.refl _ _).setCell _ _ (fun _ => rfl)
  obtain ⟨q, hq⟩ := h.nd hs
  have hwb := h.wb hs
  refine ⟨⟨?_, hp0, hp1, ?_, fun _ => ⟨q, ?_⟩, fun _ => ?_, fun _ k hk => hwb k hk, ?_, fun _ k hk hf => ?_⟩, hbel.trans (hfs.below (by omega) (fun k hk => by rw [hk]; exact hp0))⟩
  · have h1 : w2.heap[p]? = some (.cells #[nv, .int .i64 s.sw, .int .i64 s.next, wv, .int .i64 s.edge, fv] TRun (0, 0)) := by
      rw [hfr.block p hlt (fun e => by have := hfb p e; omega)]; exact h.hp
    rw [heap_setCell_same _ _ _ _ _ _ h1]
    rfl
  · exact Nat.le_trans hb1 (Nat.le_trans hsz hfs.size)
  · exact (hq.fr hfr (fun k hk _ e => by have := hfb k e; omega) hb1).fr hfs (fun k _ hk => hk) (by omega)
  · exact ((h.wq hs).fr hfr (fun k hk e => h.df hs k hk e)).fr hfs (fun k hk e => by have := hwb k hk; omega)
  · exact OwI.fr hQ hfs (fun k hk e => by have := (World.ownsRow.lt hQ k hk).1; omega)
  · rcases hat with e | e
    · exact h.df hs k hk (by rw [← e]; exact hf)
    · have := (h.wq hs).lt k hk
      rw [e] at hf
      simp at hf
      omega
set_option maxRecDepth 100000 in
set_option maxHeartbeats 2000000 in
theorem look_any (h : RunW w p B0 B1 g s nv wv fv) (hs : s.sw < 3) {j : Nat} (hj : j < g.n) (hl : s.q.length ≤ 1000000) (hf : s.found.length ≤ 1000000) :
    Calls Try.prog 26 #[.pointer (some ⟨p, 0, none⟩), nI j] w fun e w' => (∃ v, e = .returned v) ∧ (∃ wv' fv', RunW w' p B0 B1 g (s.look j) nv wv' fv') ∧ Below B0 w w' := by
  obtain ⟨q, hq⟩ := h.nd hs
  obtain ⟨ev, hat, hed⟩ := hq.atl hj
  obtain ⟨ea, ec, rfl, _⟩ := hed
  obtain ⟨a, k, hwv, _⟩ := (h.wq hs).form
  obtain rfl := hq.nv
  subst hwv
  have c0 := h.c0
  have c1 := h.c1
  have hw3 : s.sw = 0 ∨ s.sw = 1 ∨ s.sw = 2 := by omega
  obtain ⟨w1, hw1⟩ : ∃ w1, w1 = w.alloc (.cells #[nI (s.col j), iv (s.held j), .slice ea (g.e j).length ec] TNode) := ⟨_, rfl⟩
  have hb1 : Below w.heap.size w w1 := by rw [hw1]; exact (Below.refl _ _).alloc (Nat.le_refl _) _
  have h1 := h.no (Fr.of_below hb1)
  have d1 := h1.c1
  have b0 : w1.cell? ⟨w.heap.size, 0, none⟩ = some (nI (s.col j)) := by rw [hw1, cell_of_row _ _ 0 _ _ _ (heap_alloc_new _ _)]; rfl
  have b1 : w1.cell? ⟨w.heap.size, 1, none⟩ = some (iv (s.held j)) := by rw [hw1, cell_of_row _ _ 1 _ _ _ (heap_alloc_new _ _)]; rfl
  have hpaint := fun c => paint_any h1 hs (c := c) hj hl
  have HPA := hid (hpaint 2)
  have HPB := hid (hpaint 3)
  have H1 := hid h1
  have HB1 := hid (hb1.mono (Nat.le_trans (Nat.le_trans (Nat.le_of_lt (Nat.lt_of_le_of_lt h.p0 h.p1)) h.b1) (Nat.le_refl _)))
  obtain ⟨sl, hsl⟩ : ∃ sl, sl = s.look j := ⟨_, rfl⟩
  rw [← hsl]
  unfold CyS.look at hsl
  have HSL := hid hsl
  have HAT := hid hat
  have HS := hid hs
  have HF := hid hf
  have HW1 := hid hw1
  have HN := h
  have d1' := hid d1
  have b0' := hid b0
  have b1' := hid b1
  have hw3' := hid hw3
  clear hat hw1 hs hsl h1 h hb1 hpaint d1 b0 b1 hq hw3 HN hl hf
  generalize hhe : s.held j = he at *
  generalize hcc : s.col j = x at *
  go_enter Try.func26, Try.ntmps26
  go_upto_region 1 with ((with_reducible refine at_op ⟨some 11, _, _, _, _, _⟩ ?_); go_loud (refine wpList_run rfl _ (load_cells Try.underlying54 (by rfl) (by kernel_rfl) rfl rfl HAT.out) ?_))
  rw [← HW1.out]
  clear c0 HW1
  have b0 := b0'.out
  have b1 := b1'.out
  rcases hw3'.out with hw | hw | hw
  · have d1 : w1.cell? ⟨p, 1, none⟩ = some (.int .i64 0) := by rw [d1'.out, hw]; rfl
    by_cases hx : x = 1
    · subst hx
      have he : sl = s.paint j 2 := by rw [HSL.out, if_pos ⟨hw, rfl⟩]
      have HE := hid he
      clear he
      go_wp2_with fail
      refine HPA.out.mono ?_
      rintro e w2 ⟨⟨v, rfl⟩, k1, k2⟩
      have K1 := hid k1
      have K2 := hid k2
      clear k1 k2
      go_wp2
      go_end0
      obtain ⟨wv', k1⟩ := K1.out
      exact ⟨⟨_, rfl⟩, ⟨wv', fv, by rw [HE.out]; exact k1⟩, HB1.out.trans K2.out⟩
    · have he : sl = s := by rw [HSL.out, if_neg (fun k => hx k.2), if_neg (fun k => by omega), if_neg (fun k => by omega)]
      have HE := hid he
      clear he
      go_wp2_with fail
      go_end0
      exact ⟨⟨_, rfl⟩, ⟨_, fv, by rw [HE.out]; exact H1.out⟩, HB1.out⟩
  · have d1 : w1.cell? ⟨p, 1, none⟩ = some (.int .i64 1) := by rw [d1'.out, hw]; rfl
    by_cases hx : x = 2 ∧ 0 < he
    · obtain ⟨hx, hh⟩ := hx
      have he : sl = s.paint j 3 := by rw [HSL.out, if_neg (fun k => by omega), if_pos ⟨hw, hx, hh⟩]
      have HE := hid he
      clear he HSL
      subst hx
      go_wp2_with fail
      refine HPB.out.mono ?_
      rintro e w2 ⟨⟨v, rfl⟩, k1, k2⟩
      have K1 := hid k1
      have K2 := hid k2
      clear k1 k2
      go_wp2
      go_end0
      obtain ⟨wv', k1⟩ := K1.out
      exact ⟨⟨_, rfl⟩, ⟨wv', fv, by rw [HE.out]; exact k1⟩, HB1.out.trans K2.out⟩
    · have he : sl = s := by rw [HSL.out, if_neg (fun k => by omega), if_neg (fun k => hx k.2), if_neg (fun k => by omega)]
      have HE := hid he
      clear he HSL
      by_cases hx2 : x = 2
      · have hh : ¬ 0 < he := fun k => hx ⟨hx2, k⟩
        subst hx2
        clear hx
        go_wp2_with fail
        go_end0
        exact ⟨⟨_, rfl⟩, ⟨_, fv, by rw [HE.out]; exact H1.out⟩, HB1.out⟩
      · clear hx
        go_wp2_with fail
        go_end0
        exact ⟨⟨_, rfl⟩, ⟨_, fv, by rw [HE.out]; exact H1.out⟩, HB1.out⟩
  · have d1 : w1.cell? ⟨p, 1, none⟩ = some (.int .i64 2) := by rw [d1'.out, hw]; rfl
    by_cases hx : x = 2
    · have he : sl = { s with found := s.found ++ [j] } := by rw [HSL.out, if_neg (fun k => by omega), if_neg (fun k => by omega), if_pos ⟨hw, hx⟩]
      have HE := hid he
      clear he HSL
      subst hx
      obtain ⟨fa, fk, hfv, _⟩ := OwI.form H1.out.fo
      subst hfv
      have d5 := H1.out.c5
      go_wp2_with (first
        | (at_builtin; go_loud (refine wpList_pushI (o := ⟨some 63, _, _, _, _, _⟩) rfl (.tmp 60) (.tmp 62) rfl B1 (.slice fa s.found.length fk) s.found j rfl (OwI.alloc H1.out.fo _) w1.heap.size 1 rfl (by rw [cell_of_row _ _ 0 _ _ _ (heap_alloc_new w1 _)]; rfl) HF.out (by have := H1.out.b1; simp; omega) ?_); intro v5 w5 k1 k2 k3; have K1 := hid k1; have K2 := hid k2; have K3 := hid k3; have hpb := H1.out.grow (fun k hk => (World.ownsRow.lt H1.out.fo k hk).1) k2; have c5' := cell_of_row w5 p 5 _ _ _ hpb; have z5' := frozen_of_row w5 p 5 _ _ hpb; have ho5 := OwI.form k1; obtain ⟨a5, n5, rfl, _⟩ := ho5; simp only [List.getElem?_toArray, List.getElem?_cons_succ, List.getElem?_cons_zero] at c5'; clear k1 k2 k3 hpb)
        | fail)
      go_end0
      have := H1.out.pushF HS.out K1.out K2.out K3.out
      rw [show (s.found ++ [j]).length = s.found.length + 1 by simp] at this
      exact ⟨⟨_, rfl⟩, ⟨_, _, by rw [HE.out]; exact this.1⟩, HB1.out.trans this.2⟩
    · have he : sl = s := by rw [HSL.out, if_neg (fun k => by omega), if_neg (fun k => by omega), if_neg (fun k => hx k.2)]
      have HE := hid he
      clear he HSL
      go_wp2_with fail
      go_end0
      exact ⟨⟨_, rfl⟩, ⟨_, fv, by rw [HE.out]; exact H1.out⟩, HB1.out⟩
end
end Go.Proofs.Ytjmhlmohennknab
