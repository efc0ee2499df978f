/-
  The contract of unit.
-/
import Derived.Test.YtjmhlmohennknabCyF
namespace Go.Proofs.Ytjmhlmohennknab
open Go Go.ChangeShapes Go.WideShapes Go.ChangeAt Go.RowKit

section
variable {w w' : World} {p B0 B1 : Nat} {g : Gr} {s : CyS} {nv wv fv : Value} {fp : Nat → Prop}
/-- A list without doubles of numbers below n is no longer than n. -/
theorem nodup_le : ∀ {n : Nat} {l : List Nat}, l.Nodup → (∀ x ∈ l, x < n) → l.length ≤ n := by
  intro n
  induction n with
  | zero =>
    intro l _ h
    cases l with
    | nil => exact Nat.le_refl _
    | cons a l => exact absurd (h a (by simp)) (by omega)
  | succ n ih =>
    intro l hn h
    by_cases hm : n ∈ l
    · have h1 := ih (l := l.erase n) (hn.erase n) (fun x hx => by
        have h2 := h x (List.mem_of_mem_erase hx)
        have h3 : x ≠ n := fun e => by subst e; exact (List.Nodup.not_mem_erase hn) hx
        omega)
      rw [List.length_erase_of_mem hm] at h1
      omega
    · have := ih hn (fun x hx => by
        have h2 := h x hx
        have h3 : x ≠ n := fun e => hm (e ▸ hx)
        omega)
      omega
theorem len_le_tot {e : Nat → List Nat} {n i : Nat} (h : i < n) : (e i).length ≤ tot e n := by
  induction n with
  | zero => omega
  | succ n ih =>
    unfold tot
    by_cases hi : i = n
    · subst hi; omega
    · have := ih (by omega); omega
/-- A graph of a size that may be worked on. -/
structure GrSz (g : Gr) : Prop where
  n : g.n ≤ 100000
  t : tot g.e g.n ≤ 1000000
set_option maxRecDepth 100000 in
set_option maxHeartbeats 4000000 in
theorem unit_any (h : RunW w p B0 B1 g s nv wv fv) (hJ : CyJ g s) (hg : GrOk g) (hz : GrSz g) (hs : s.sw < 3) (hm : s.next < g.n ∨ s.q ≠ []) :
    Calls Try.prog 24 #[.pointer (some ⟨p, 0, none⟩)] w fun e w' => (∃ v, e = .returned v) ∧ (∃ wv' fv', RunW w' p B0 B1 g (s.unit g.e) nv wv' fv') ∧ Below B0 w w' := by
  have hql : s.q.length ≤ 1000000 := by
    have := nodup_le hJ.qn hJ.qc
    have := hz.n
    omega
  have hfl : s.found.length ≤ 1000000 := by
    have := hJ.fl
    have := hz.n
    omega
  have c3 := h.c3
  cases hq : s.q with
  | nil =>
    have hn : s.next < g.n := hm.elim id (fun k => absurd hq k)
    have hun : s.unit g.e = { s.look s.next with next := s.next + 1 } := by unfold CyS.unit; rw [if_pos hq]
    rw [hun]
    obtain ⟨a, k, rfl, _⟩ := (h.wq hs).form
    rw [hq] at c3
    have c2 := h.c2
    have HLK := hid (look_any h hs hn hql hfl)
    have HZN := hid hz.n
    have HS := hid hs
    have hnz : s.next ≤ 100000 := by have := hz.n; omega
    have hwe : IntKind.i64.wrap ((s.next : Int) + 1) = (s.next : Int) + 1 := IntWalk.i64_in _ ⟨by omega, by omega⟩
    simp only [List.length_nil] at c3
    clear hun hq h hJ hg hz hs hm hql hfl
    go_enter Try.func24, Try.ntmps24
    go_wp2_with fail
    refine HLK.out.mono ?_
    rintro e w1 ⟨⟨v, rfl⟩, ⟨wv', fv', k1⟩, k2⟩
    obtain ⟨h2, hb2⟩ := k1.setP 2 (.int .i64 ((s.next : Int) + 1)) { s.look s.next with next := s.next + 1 } wv' fv' rfl (fun k => ⟨by rw [(look_same s.next).1]; exact HS.out, rfl, rfl⟩) (fun k => ⟨k1.wq (by rw [(look_same s.next).1]; exact HS.out), k1.wb (by rw [(look_same s.next).1]; exact HS.out)⟩) k1.fo (fun k => k1.df (by rw [(look_same s.next).1]; exact HS.out))
    have d2 := k1.c2
    rw [(look_same s.next).2] at d2
    have z2 := k1.fz 2
    have H2 := hid h2
    have HB := hid (k2.trans hb2)
    clear k1 k2 h2 hb2 c3 c2
    go_wp2
    go_end0
    exact ⟨⟨_, rfl⟩, ⟨_, _, H2.out⟩, HB.out⟩
  | cons i r =>
    have hun : s.unit g.e = s.follow g.e := by unfold CyS.unit; rw [if_neg (by rw [hq]; simp)]
    rw [hun]
    have hs2 : s.sw < 2 := by
      have h1 : s.sw ≠ 2 := fun e => by
        have := (hJ.s2 e).q
        rw [this] at hq
        cases hq
      omega
    have hi := hJ.qc i (by rw [hq]; simp)
    have HF := hid (follow_any h hs2 hq hi (hJ.ed i r hq) (hg.e i) hql (Nat.le_trans (len_le_tot hi) hz.t) (fun j hj => by
      have h1 := hJ.hd j hj hs2
      have h2 := hg.c j
      have h3 := hz.t
      omega))
    obtain ⟨b, off, cap, o2, rfl, _⟩ := (by have := h.wq hs; rw [hq] at this; exact this : QI w wv (i :: r)).head
    clear hun hq h hJ hg hz hs hm hql hfl hs2 hi
    go_enter Try.func24, Try.ntmps24
    go_wp2_with fail
    refine HF.out.mono ?_
    rintro e w1 ⟨⟨v, rfl⟩, ⟨wv', k1⟩, k2⟩
    have K1 := hid k1
    have K2 := hid k2
    clear k1 k2
    go_wp2
    first
      | (go_end0; exact ⟨⟨_, rfl⟩, ⟨_, _, K1.out⟩, K2.out⟩)
      | (refine bodyPost_ret (results_none rfl _ _ _) rfl ?_; exact ⟨⟨_, rfl⟩, ⟨_, _, K1.out⟩, K2.out⟩)
end
end Go.Proofs.Ytjmhlmohennknab
