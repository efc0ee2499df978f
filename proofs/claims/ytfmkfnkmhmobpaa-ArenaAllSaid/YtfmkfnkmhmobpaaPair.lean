/-
  An arena and its plain twin side by side.
-/
import Derived.Test.YtfmkfnkmhmobpaaRefD
import Derived.Test.YtfmkfnkmhmobpaaMixC
namespace Go.Proofs.Ytfmkfnkmhmobpaa
open Go.ChangeShapes Go.WideShapes Go.ChangeAt Go.RowKit

/-- A pair at a block: the arena, the twin, the handles that were given. -/
structure PairInv (w0 : World) (pp pA pR : Nat) (SA SR : Nat → Prop) (A AR : Ar) (given : List Int) (gv : Value) (w : World) : Prop where
  ar : InS SA w pA A
  rr : RInS SR w pR AR
  hp : w.heap[pp]? = some (.cells #[.pointer (some ⟨pA, 0, none⟩), .pointer (some ⟨pR, 0, none⟩), gv] 39 (0, 0))
  gr : w.ownsRow w0.heap.size 34 1 gv given.length (given.map (Value.int .u64))
  dAR : ∀ k, SA k → ¬ SR k
  dAp : ¬ SA pp
  dRp : ¬ SR pp
  dgA : ∀ k, gv.ownBlock = some k → ¬ SA k
  dgR : ∀ k, gv.ownBlock = some k → ¬ SR k
  dgp : gv.ownBlock ≠ some pp
  bA : ∀ k, SA k → w0.heap.size ≤ k
  bR : ∀ k, SR k → w0.heap.size ≤ k
  bp : w0.heap.size ≤ pp
  below : Below w0.heap.size w0 w
  gb : ∀ h ∈ given, U64 h
section
variable {w0 w w' : World} {pp pA pR : Nat} {SA SR : Nat → Prop} {A AR A' : Ar} {given : List Int} {gv : Value}
theorem PairInv.lt (h : PairInv w0 pp pA pR SA SR A AR given gv w) : pp < w.heap.size := (Array.getElem?_eq_some_iff.1 h.hp).1
theorem PairInv.arena (h : PairInv w0 pp pA pR SA SR A AR given gv w) (h1 : InS (ext SA w w') w' pA A') (hf : Fr SA w w') : PairInv w0 pp pA pR (ext SA w w') SR A' AR given gv w' :=
  ⟨h1, h.rr.fr hf (fun k h1 h2 => h.dAR k h2 h1), by rw [hf.block pp h.lt h.dAp]; exact h.hp, hf.owns h.gr h.dgA, fun k hk hs => by
      rcases hk with hk | hk
      · exact h.dAR k hk hs
      · have := h.rr.lt k hs; omega, fun hk => by
      rcases hk with hk | hk
      · exact h.dAp hk
      · have := h.lt; omega, h.dRp, fun k hk he => by
      rcases he with he | he
      · exact h.dgA k hk he
      · have := (h.gr.lt k hk).2; omega, h.dgR, h.dgp, ext_ge h.bA h.below.size, h.bR, h.bp, below_on h.below hf h.bA, h.gb⟩
theorem PairInv.twin (h : PairInv w0 pp pA pR SA SR A AR given gv w) (h1 : RInS (ext SR w w') w' pR A') (hf : Fr SR w w') : PairInv w0 pp pA pR SA (ext SR w w') A A' given gv w' :=
  ⟨h.ar.fr hf (fun k h1 h2 => h.dAR k h1 h2), h1, by rw [hf.block pp h.lt h.dRp]; exact h.hp, hf.owns h.gr h.dgR, fun k hk hs => by
      rcases hs with hs | hs
      · exact h.dAR k hk hs
      · have := h.ar.lt k hk; omega, h.dAp, fun hk => by
      rcases hk with hk | hk
      · exact h.dRp hk
      · have := h.lt; omega, h.dgA, fun k hk he => by
      rcases he with he | he
      · exact h.dgR k hk he
      · have := (h.gr.lt k hk).2; omega, h.dgp, h.bA, ext_ge h.bR h.below.size, h.bp, below_on h.below hf h.bR, h.gb⟩
theorem PairInv.no (h : PairInv w0 pp pA pR SA SR A AR given gv w) (hf : Fr (fun _ => False) w w') : PairInv w0 pp pA pR SA SR A AR given gv w' :=
  ⟨h.ar.fr hf (fun _ _ e => e), h.rr.fr hf (fun _ _ e => e), by rw [hf.block pp h.lt (fun e => e)]; exact h.hp, hf.owns h.gr (fun _ _ e => e), h.dAR, h.dAp, h.dRp, h.dgA, h.dgR, h.dgp, h.bA, h.bR, h.bp, h.below.trans (hf.below h.below.size (fun _ e => e.elim)), h.gb⟩
theorem PairInv.c0 (h : PairInv w0 pp pA pR SA SR A AR given gv w) : w.cell? ⟨pp, 0, none⟩ = some (.pointer (some ⟨pA, 0, none⟩)) := by rw [cell_of_row w pp 0 _ 39 _ h.hp]; rfl
theorem PairInv.c1 (h : PairInv w0 pp pA pR SA SR A AR given gv w) : w.cell? ⟨pp, 1, none⟩ = some (.pointer (some ⟨pR, 0, none⟩)) := by rw [cell_of_row w pp 1 _ 39 _ h.hp]; rfl
theorem PairInv.c2 (h : PairInv w0 pp pA pR SA SR A AR given gv w) : w.cell? ⟨pp, 2, none⟩ = some gv := by rw [cell_of_row w pp 2 _ 39 _ h.hp]; rfl
theorem PairInv.fz (h : PairInv w0 pp pA pR SA SR A AR given gv w) (k : Nat) : w.frozen? ⟨pp, k, none⟩ = false := frozen_of_row w pp k _ 39 h.hp
theorem PairInv.shape (h : PairInv w0 pp pA pR SA SR A AR given gv w) : ∃ a k, gv = .slice a given.length k := by
  rcases h.gr.2 with ⟨h1, h2⟩ | ⟨g, cap, _, h1, _⟩
  · exact ⟨none, 0, by rw [h1, h2]⟩
  · exact ⟨_, cap, h1⟩
/-- One more handle was given. -/
theorem PairInv.give {x : Int} {g cap : Nat} {o : Obj} {w2 : World} (h : PairInv w0 pp pA pR SA SR A AR given gv w) (hx : U64 x)
    (hown : w2.ownsRow w0.heap.size 34 1 (.slice (some ⟨g, 0, none⟩) (given.length + 1) cap) (given.length + 1) (given.map (Value.int .u64) ++ [.int .u64 x])) (hg : (w.alloc o).grownBy w2 gv.ownBlock) (hat : gv.ownBlock = some g ∨ g = w.heap.size + 1) :
    PairInv w0 pp pA pR SA SR A AR (given ++ [x]) (.slice (some ⟨g, 0, none⟩) (given.length + 1) cap) (w2.setCell ⟨pp, 2, none⟩ (.slice (some ⟨g, 0, none⟩) (given.length + 1) cap)) := by
  have hfr : Fr (fun j => gv.ownBlock = some j) w w2 := ((Fr.refl _ _).alloc o).grown hg (fun k hk _ => hk)
  have hfr2 : Fr (fun j => j = pp ∨ gv.ownBlock = some j) w (w2.setCell ⟨pp, 2, none⟩ (.slice (some ⟨g, 0, none⟩) (given.length + 1) cap)) := (hfr.mono (fun _ e _ => .inr e)).setCell _ _ (fun _ => .inl rfl)
  have hgp : g ≠ pp := fun e => by
    rcases hat with e2 | e2
    · exact h.dgp (by rw [e2, e])
    · have := h.lt; omega
  have hpp : w2.heap[pp]? = some (.cells #[.pointer (some ⟨pA, 0, none⟩), .pointer (some ⟨pR, 0, none⟩), gv] 39 (0, 0)) := by
    rw [hfr.block pp h.lt h.dgp]; exact h.hp
  have hgS : ∀ S : Nat → Prop, (∀ k, gv.ownBlock = some k → ¬ S k) → (∀ k, S k → k < w.heap.size) → ¬ S g := fun S h1 h2 hs => by
    rcases hat with e | e
    · exact h1 _ e hs
    · have := h2 g hs; omega
  refine ⟨h.ar.fr hfr2 (fun k h1 h2 => ?_), h.rr.fr hfr2 (fun k h1 h2 => ?_), by rw [heap_setCell_same _ _ _ _ _ _ hpp]; rfl, ?_, h.dAR, h.dAp, h.dRp, fun k hk => ?_, fun k hk => ?_, ?_, h.bA, h.bR, h.bp, ?_, fun y hy => ?_⟩
  · rcases h2 with rfl | h2
    · exact h.dAp h1
    · exact h.dgA k h2 h1
  · rcases h2 with rfl | h2
    · exact h.dRp h1
    · exact h.dgR k h2 h1
  · rw [List.length_append, List.length_singleton]
    refine ownsRow_setCell_other ?_ (by simp [Value.ownBlock]; exact hgp) _
    simpa using hown
  · simp [Value.ownBlock] at hk; subst hk; exact hgS SA h.dgA h.ar.lt
  · simp [Value.ownBlock] at hk; subst hk; exact hgS SR h.dgR h.rr.lt
  · simp [Value.ownBlock]; exact hgp
  · exact h.below.trans (hfr2.below h.below.size (fun k hk => by
      rcases hk with rfl | hk
      · exact h.bp
      · exact (h.gr.lt k hk).1))
  · rcases List.mem_append.1 hy with hy | hy
    · exact h.gb y hy
    · simp at hy; subst hy; exact hx
end
theorem RPut_some (S : Nat → Prop) (w : World) (p : Nat) (A A' : Ar) (i g : Nat) (x : Int) (h : RInS S w p A) (hp : Put A x i g A') :
    Calls Try.prog 26 #[.pointer (some ⟨p, 0, none⟩), .int .i64 x] w (RPost S w p A' (.int .u64 (hand i g))) := by
  cases hp with
  | again F i s hF hs => exact RPut_again S w p A i s.g F s x h hF hs rfl
  | fresh hF hl => exact RPut_fresh S w p A x h hF hl
/-- At, in the twin's footprint. -/
theorem RAt_any (S : Nat → Prop) (w : World) (p : Nat) (A : Ar) (hd : Int) (h : RInS S w p A) : Calls Try.prog 21 #[.pointer (some ⟨p, 0, none⟩), .int .u64 hd] w (AtPost A hd w) := by
  obtain ⟨cv, fv, R, h1, h2, _⟩ := h
  exact At_any w p cv fv A R hd h1 h2
theorem RDrop_any (S : Nat → Prop) (w : World) (p : Nat) (A : Ar) (i : Nat) (s : Spot) (h : RInS S w p A) (hs : A.L[i]? = some s) (ht : s.t = true) : Calls Try.prog 27 #[.pointer (some ⟨p, 0, none⟩), .int .i64 i] w (RDropPost S w p (dropAt A i s)) := by
  by_cases hw : s.g < 4294967295
  · exact RDrop_again S w p A i s h hs ht hw
  · exact RDrop_worn S w p A i s h hs ht hw
/-- A thing in the twin, read and written where it lies. -/
theorem RInS.thing {S : Nat → Prop} {w : World} {p : Nat} {A : Ar} {i : Nat} {s : Spot} (h : RInS S w p A) (hs : A.L[i]? = some s) :
    ∃ b n k, w.cell? ⟨p, 2, none⟩ = some (.slice (some ⟨b, 0, none⟩) n k) ∧ i < n ∧ n ≤ 65536 ∧ w.cell? ⟨b, i * 3, none⟩ = some (.int .i64 s.x) ∧ w.frozen? ⟨b, i * 3, none⟩ = false ∧ S b ∧
      ∀ x, RInS S (w.setCell ⟨b, i * 3, none⟩ (.int .i64 x)) p (setAt A i s x) := by
  obtain ⟨cv, fv, R, h1, h2, h3, h4, h5, h6⟩ := h
  obtain ⟨r, hr, hrs⟩ := spot_of h1.hR hs
  obtain ⟨b, k, hcv⟩ := h1.form hr
  subst hcv
  have hrlt : i < R.length := (List.getElem?_eq_some_iff.1 hr).1
  have g0 := h1.at hr rfl 0 (by omega)
  simp only [RSpot.cells, List.getElem?_cons_zero] at g0
  rw [Nat.add_zero] at g0
  refine ⟨b, R.length, k, h1.c2, hrlt, by have := h1.len; have := h2.len; have := h2.m2; omega, by rw [g0, ← hrs]; rfl, h1.hc.frozenAt _, h4 b rfl, fun x => ?_⟩
  have r2 := h1.setL (s' := ⟨x, r.g, r.s⟩) rfl hr 0 (.int .i64 x) (by omega) rfl
  have hm : (R.set i ⟨x, r.g, r.s⟩).map toSpot = (setAt A i s x).L := by
    rw [List.map_set, setAt, h1.hR, ← hrs]; rfl
  rw [hm] at r2
  exact ⟨_, fv, _, r2, (set_ok (x := x) h2 hs).1, h3, h4, h5, fun k hk => by simpa using h6 k hk⟩
end Go.Proofs.Ytfmkfnkmhmobpaa
