/-
  The contract of paint.
-/
import Derived.Test.YtjmhlmohennknabCyN
import Derived.Deep.Cut
namespace Go.Proofs.Ytjmhlmohennknab
open Go Go.ChangeShapes Go.WideShapes Go.ChangeAt Go.RowKit

section
variable {w w' : World} {p B0 B1 : Nat} {g : Gr} {s : CyS} {nv wv fv : Value} {fp : Nat → Prop}
theorem RunW.setQ (h : RunW w p B0 B1 g s nv wv fv) {q : Nat} (hq : NdW w p q B0 B1 g.n g.e s.col s.held nv) (k : Nat) (v : Value) {col' : Nat → Nat} {held' : Nat → Int} (hN : NdW (w.setCell ⟨q, k, none⟩ v) p q B0 B1 g.n g.e col' held' nv) :
    RunW (w.setCell ⟨q, k, none⟩ v) p B0 B1 g { s with col := col', held := held' } nv wv fv ∧ Below B0 w (w.setCell ⟨q, k, none⟩ v) := by
  have hfr : Fr (fun b => b = q) w (w.setCell ⟨q, k, none⟩ v) := (Fr.refl _ _).setCell _ _ (fun _ => rfl)
  have hq1 := hq.q1
  have hlt := hq.lt
  refine ⟨⟨?_, h.p0, h.p1, Nat.le_trans h.b1 hfr.size, fun _ => ⟨q, hN⟩, fun hs => (h.wq hs).fr hfr (fun k hk e => by have := h.wb hs k hk; omega), h.wb, h.fo.fr hfr (fun k hk e => by have := (World.ownsRow.lt h.fo k hk).1; omega), h.df⟩, hfr.below (by have := hq.q0; omega) (fun k hk => by rw [hk]; exact hq.q0)⟩
  rw [hfr.block p h.lt (fun e => hq.qp e.symm)]
  exact h.hp
theorem QI.alloc {v : Value} {xs : List Nat} (h : QI w v xs) (o : Obj) : QI (w.alloc o) v xs := h.fr (fp := fun _ => False) ((Fr.refl _ _).alloc o) (fun _ _ e => e)
theorem RunW.push (h : RunW w p B0 B1 g s nv wv fv) (hs : s.sw < 3) {w2 : World} {a : Addr} {n c j : Nat} {o : Obj} (hQ : QI w2 (.slice (some a) n c) (s.q ++ [j])) (hg : (w.alloc o).grownBy w2 wv.ownBlock) (hat : wv.ownBlock = some a.block ∨ a.block = (w.alloc o).heap.size) :
    RunW (w2.setCell ⟨p, 3, none⟩ (.slice (some a) n c)) p B0 B1 g { s with q := s.q ++ [j] } nv (.slice (some a) n c) fv ∧ Below B0 w (w2.setCell ⟨p, 3, none⟩ (.slice (some a) n c)) := by
  have hfr : Fr (fun k => wv.ownBlock = some k) w w2 := ((Fr.refl _ _).alloc o).grown hg (fun k hk _ => hk)
  have hb1 := h.b1
  have hp1 := h.p1
  have hp0 := h.p0
  have hlt := h.lt
  have hwb := h.wb hs
  have hbel : Below B0 w w2 := hfr.below (by omega) (fun k hk => by have := hwb k hk; omega)
  have hown : (Value.slice (some a) n c).ownBlock = some a.block := rfl
  have hsz := hfr.size
  have hfs : Fr (fun b => b = p) w2 (w2.setCell ⟨p, 3, none⟩ (.slice (some a) n c)) := (Fr.refl _ _).setCell _ _ (fun _ => rfl)
  have hab : B1 ≤ a.block := by
    rcases hat with e | e
    · exact hwb _ e
    · rw [e]; simp; omega
  obtain ⟨q, hq⟩ := h.nd hs
  have hfo2 : OwI B1 w2 fv s.found := h.fo.fr hfr (fun k hk e => h.df hs k e hk)
  refine ⟨⟨?_, hp0, hp1, ?_, fun _ => ⟨q, ?_⟩, fun _ => ?_, fun _ k hk => ?_, ?_, fun _ k hk hf => ?_⟩, hbel.trans (hfs.below (by omega) (fun k hk => by rw [hk]; exact hp0))⟩
  · have h1 : w2.heap[p]? = some (.cells #[nv, .int .i64 s.sw, .int .i64 s.next, wv, .int .i64 s.edge, fv] TRun (0, 0)) := by
      rw [hfr.block p hlt (fun e => by have := hwb p e; omega)]; exact h.hp
    rw [heap_setCell_same _ _ _ _ _ _ h1]
    rfl
  · exact Nat.le_trans hb1 (Nat.le_trans hsz hfs.size)
  · exact (hq.fr hfr (fun k hk _ e => by have := hwb k e; omega) hb1).fr hfs (fun k _ hk => hk) (by omega)
  · exact hQ.fr hfs (fun k hk e => by rw [hown] at hk; simp at hk; omega)
  · rw [hown] at hk
    simp at hk
    omega
  · exact hfo2.fr hfs (fun k hk e => by have := (World.ownsRow.lt h.fo k hk).1; omega)
  · rw [hown] at hk
    rcases hat with e | e
    · exact h.df hs k (by rw [e]; exact hk) hf
    · have := (World.ownsRow.lt h.fo k hf).2
      simp at hk
      rw [e] at hk
      simp at hk
      omega
theorem RunW.grow (h : RunW w p B0 B1 g s nv wv fv) {v : Value} (hv : ∀ k, v.ownBlock = some k → B1 ≤ k) {w2 : World} {o : Obj} (hg : (w.alloc o).grownBy w2 v.ownBlock) : w2.heap[p]? = some (.cells #[nv, .int .i64 s.sw, .int .i64 s.next, wv, .int .i64 s.edge, fv] TRun (0, 0)) := by
  have hfr : Fr (fun k => v.ownBlock = some k) w w2 := ((Fr.refl _ _).alloc o).grown hg (fun k hk _ => hk)
  rw [hfr.block p h.lt (fun e => by have := hv p e; have := h.p1; omega)]
  exact h.hp
set_option maxRecDepth 100000 in
set_option maxHeartbeats 2000000 in
theorem paint_any (h : RunW w p B0 B1 g s nv wv fv) (hs : s.sw < 3) {j c : Nat} (hj : j < g.n) (hl : s.q.length ≤ 1000000) :
    Calls Try.prog 27 #[.pointer (some ⟨p, 0, none⟩), nI j, nI c] w fun e w' => (∃ v, e = .returned v) ∧ (∃ wv', RunW w' p B0 B1 g (s.paint j c) nv wv' fv) ∧ Below B0 w w' := by
  obtain ⟨q, hq⟩ := h.nd hs
  obtain ⟨a, k, hwv, _⟩ := (h.wq hs).form
  obtain rfl := hq.nv
  subst hwv
  have c0 := h.c0
  have d0 := hq.c0 hj
  by_cases hc : s.col j < c
  · have heq : s.paint j c = { s with col := upd s.col j c, q := s.q ++ [j] } := by unfold CyS.paint; rw [if_pos hc]
    rw [heq]
    have z0 := hq.fz (j * 3)
    obtain ⟨h1, hb1⟩ := h.setQ hq _ _ (hq.setCol h.b1 hj c)
    have e3 := h1.c3
    have z3 := h1.fz 3
    have hQ := h1.wq hs
    obtain ⟨w1, hw1⟩ : ∃ w1, w1 = w.setCell ⟨q, j * 3, none⟩ (nI c) := ⟨_, rfl⟩
    rw [← hw1] at h1 hb1 e3 z3 hQ
    have H1 := hid h1
    have HB1 := hid hb1
    have HQ := hid hQ
    have HWB := hid (h1.wb hs)
    have HS := hid hs
    have HL := hid hl
    have HW1 := hid hw1
    obtain ⟨i0, hi, hz0, hz1, hz2⟩ := info_split infoI
    have hi' := hid hi
    have hz0' := hid hz0
    have hz1' := hid hz1
    have hz2' := hid hz2
    have hj' := hj
    generalize s.col j = x at *
    generalize g.n = n at *
    clear h hq h1 hb1 hQ hs hl hw1 hi hz0 hz1 hz2 heq
    go_enter Try.func27, Try.ntmps27
    go_upto_region 2 with fail
    rw [← HW1.out]
    clear c0 d0 z0
    go_wp2_with (first
      | (at_builtin; go_loud (refine wpList_append_qi (o := ⟨some 31, _, _, _, _, _⟩) rfl (.tmp 28) (.tmp 30) 26 rfl i0 Try.underlying26 hi'.out hz0'.out hz1'.out hz2'.out (.slice a s.q.length k) s.q rfl (QI.alloc HQ.out _) HL.out ⟨w1.heap.size, 0, none⟩ 1 j rfl (World.news_of_block (heap_alloc_new w1 _)) ?_); intro a' c' w2 k1 k2 k3; have K1 := hid k1; have K2 := hid k2; have K3 := hid k3; have hpb := H1.out.grow (HWB.out) k2; have c3' := cell_of_row w2 p 3 _ _ _ hpb; have z3' := frozen_of_row w2 p 3 _ _ hpb; simp only [List.getElem?_toArray, List.getElem?_cons_succ, List.getElem?_cons_zero] at c3'; clear k1 k2 k3 hpb)
      | fail)
    go_end0
    have := H1.out.push HS.out K1.out K2.out K3.out
    exact ⟨⟨_, rfl⟩, ⟨_, this.1⟩, HB1.out.trans this.2⟩
  · have heq : s.paint j c = s := by unfold CyS.paint; rw [if_neg hc]
    rw [heq]
    have H := hid h
    generalize s.col j = x at *
    generalize g.n = n at *
    clear h hq hs hl heq
    go_enter Try.func27, Try.ntmps27
    go_wp2_with fail
    go_end0
    exact ⟨⟨_, rfl⟩, ⟨_, H.out⟩, Below.refl _ _⟩
end
end Go.Proofs.Ytjmhlmohennknab
