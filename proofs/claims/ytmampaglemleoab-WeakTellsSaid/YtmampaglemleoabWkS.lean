/-
  A table and its plain twin side by side.
-/
import Derived.Test.YtmampaglemleoabWkRd
import Derived.Test.YtmampaglemleoabWkK
import Derived.Test.YtmampaglemleoabWkN
import Derived.Test.YtmampaglemleoabWkAct
import Derived.Test.YtmampaglemleoabPick
namespace Go.Proofs.Ytmampaglemleoab
open Go Go.ChangeShapes Go.WideShapes Go.ChangeAt Go.RowKit

/-- A pair at a block: the table, the twin, the blocks that were given. -/
structure WkP (w0 : World) (pp : Nat) (vT vX : Value) (S1 S2 : Nat → Prop) (s1 s2 : Ws) (G : List Int) (gv : Value) (w : World) : Prop where
  hp : w.heap[pp]? = some (.cells #[vT, vX, gv] 33 (0, 0))
  t : RpW S1 w vT s1
  x : RfT S2 w vX s2
  g : RowS TU u64v (fun b => S1 b ∨ S2 b ∨ b = pp) w0.heap.size w gv G
  d12 : ∀ b, S1 b → ¬ S2 b
  dp1 : ¬ S1 pp
  dp2 : ¬ S2 pp
  b1 : ∀ b, S1 b → w0.heap.size ≤ b
  b2 : ∀ b, S2 b → w0.heap.size ≤ b
  bp : w0.heap.size ≤ pp
  below : Below w0.heap.size w0 w
  gu : ∀ x ∈ G, U64 x
section
variable {w0 w w' : World} {pp : Nat} {vT vX gv : Value} {S1 S2 : Nat → Prop} {s1 s2 s1' s2' : Ws} {G : List Int}
theorem WkP.lt (h : WkP w0 pp vT vX S1 S2 s1 s2 G gv w) : pp < w.heap.size := (Array.getElem?_eq_some_iff.1 h.hp).1
theorem WkP.c0 (h : WkP w0 pp vT vX S1 S2 s1 s2 G gv w) : w.cell? ⟨pp, 0, none⟩ = some vT := by rw [cell_of_row w pp 0 _ _ _ h.hp]; rfl
theorem WkP.c1 (h : WkP w0 pp vT vX S1 S2 s1 s2 G gv w) : w.cell? ⟨pp, 1, none⟩ = some vX := by rw [cell_of_row w pp 1 _ _ _ h.hp]; rfl
theorem WkP.c2 (h : WkP w0 pp vT vX S1 S2 s1 s2 G gv w) : w.cell? ⟨pp, 2, none⟩ = some gv := by rw [cell_of_row w pp 2 _ _ _ h.hp]; rfl
theorem WkP.fz (h : WkP w0 pp vT vX S1 S2 s1 s2 G gv w) (k : Nat) : w.frozen? ⟨pp, k, none⟩ = false := frozen_of_row w pp k _ _ h.hp
theorem WkP.no (h : WkP w0 pp vT vX S1 S2 s1 s2 G gv w) (hf : Fr (fun _ => False) w w') : WkP w0 pp vT vX S1 S2 s1 s2 G gv w' :=
  ⟨by rw [hf.block pp h.lt (fun e => e)]; exact h.hp, h.t.no hf, h.x.no hf, h.g.side hf (fun _ _ e => e), h.d12, h.dp1, h.dp2, h.b1, h.b2, h.bp, h.below.trans (hf.below h.below.size (fun _ e => e.elim)), h.gu⟩
/-- The table has turned. -/
theorem WkP.tab (h : WkP w0 pp vT vX S1 S2 s1 s2 G gv w) (hf : Fr S1 w w') (hR : RpW (exS S1 w w') w' vT s1') : WkP w0 pp vT vX (exS S1 w w') S2 s1' s2 G gv w' := by
  have hlp := h.lt
  refine ⟨by rw [hf.block pp h.lt h.dp1]; exact h.hp, hR, h.x.fr hf (fun k h1 h2 => h.d12 k h2 h1), ⟨hf.owns h.g.own (fun k hk e => h.g.off k hk (.inl e)), fun k hk e => ?_⟩, fun k hk hs => ?_, fun e => ?_, h.dp2, exS_gt h.b1 h.below.size, h.b2, h.bp, h.below.trans (hf.below h.below.size h.b1), h.gu⟩
  · have := (h.g.own.lt k hk).2
    rcases e with e | e | e
    · rcases e with e | e
      · exact h.g.off k hk (.inl e)
      · omega
    · exact h.g.off k hk (.inr (.inl e))
    · exact h.g.off k hk (.inr (.inr e))
  · rcases hk with hk | hk
    · exact h.d12 k hk hs
    · have := h.x.lt k hs; omega
  · rcases e with e | e
    · exact h.dp1 e
    · omega
/-- The twin has turned. -/
theorem WkP.twin (h : WkP w0 pp vT vX S1 S2 s1 s2 G gv w) (hf : Fr S2 w w') (hR : RfT (exS S2 w w') w' vX s2') : WkP w0 pp vT vX S1 (exS S2 w w') s1 s2' G gv w' := by
  have hlp := h.lt
  refine ⟨by rw [hf.block pp h.lt h.dp2]; exact h.hp, h.t.fr hf (fun k h1 h2 => h.d12 k h1 h2), hR, ⟨hf.owns h.g.own (fun k hk e => h.g.off k hk (.inr (.inl e))), fun k hk e => ?_⟩, fun k hk hs => ?_, h.dp1, fun e => ?_, h.b1, exS_gt h.b2 h.below.size, h.bp, h.below.trans (hf.below h.below.size h.b2), h.gu⟩
  · have := (h.g.own.lt k hk).2
    rcases e with e | e | e
    · exact h.g.off k hk (.inl e)
    · rcases e with e | e
      · exact h.g.off k hk (.inr (.inl e))
      · omega
    · exact h.g.off k hk (.inr (.inr e))
  · rcases hs with hs | hs
    · exact h.d12 k hk hs
    · have := h.t.lt k hk; omega
  · rcases e with e | e
    · exact h.dp2 e
    · omega
/-- The twin has turned where it lies. -/
theorem WkP.twin0 (h : WkP w0 pp vT vX S1 S2 s1 s2 G gv w) (hf : Fr S2 w w') (hR : RfT S2 w' vX s2') : WkP w0 pp vT vX S1 S2 s1 s2' G gv w' :=
  ⟨by rw [hf.block pp h.lt h.dp2]; exact h.hp, h.t.fr hf (fun k h1 h2 => h.d12 k h1 h2), hR, ⟨hf.owns h.g.own (fun k hk e => h.g.off k hk (.inr (.inl e))), h.g.off⟩, h.d12, h.dp1, h.dp2, h.b1, h.b2, h.bp, h.below.trans (hf.below h.below.size h.b2), h.gu⟩
/-- One more was given. -/
theorem WkP.give {gv' : Value} {o : Obj} {x : Int} {n : Nat} {wz : World} (h : WkP w0 pp vT vX S1 S2 s1 s2 G gv w) (hx : U64 x) (hown : wz.ownsRow w0.heap.size TU 1 gv' n (G.map u64v ++ [u64v x])) (hg : (w.alloc o).grownBy wz gv.ownBlock) (hat : gv'.ownBlock = gv.ownBlock ∨ gv'.ownBlock = some (w.alloc o).heap.size) :
    WkP w0 pp vT vX S1 S2 s1 s2 (G ++ [x]) gv' (wz.setCell ⟨pp, 2, none⟩ gv') := by
  have hlp := h.lt
  have hSl : ∀ b, (S1 b ∨ S2 b ∨ b = pp) → b < w.heap.size := fun b hb => by
    rcases hb with e | e | e
    · exact h.t.lt b e
    · exact h.x.lt b e
    · omega
  obtain ⟨h1, h2⟩ := h.g.app hSl hown hg hat
  have hf : Fr (fun j => gv.ownBlock = some j ∨ j = pp) w (wz.setCell ⟨pp, 2, none⟩ gv') := (h2.mono (fun _ e _ => .inl e)).setCell _ _ (fun _ => .inr rfl)
  have hpz : wz.heap[pp]? = some (.cells #[vT, vX, gv] 33 (0, 0)) := by
    rw [h2.block pp h.lt (fun e => h.g.off pp e (.inr (.inr rfl)))]; exact h.hp
  refine ⟨by rw [heap_setCell_same _ _ _ _ _ _ hpz]; rfl, h.t.fr hf (fun k hk e => ?_), h.x.fr hf (fun k hk e => ?_), ⟨ownsRow_setCell_other h1.own (fun e => h1.off pp e (.inr (.inr rfl))) _, h1.off⟩, h.d12, h.dp1, h.dp2, h.b1, h.b2, h.bp, h.below.trans (hf.below h.below.size (fun k e => ?_)), fun y hy => ?_⟩
  · rcases e with e | e
    · exact h.g.off k e (.inl hk)
    · exact h.dp1 (e ▸ hk)
  · rcases e with e | e
    · exact h.g.off k e (.inr (.inl hk))
    · exact h.dp2 (e ▸ hk)
  · rcases e with e | e
    · exact (h.g.own.lt k e).1
    · exact e ▸ h.bp
  · rcases List.mem_append.1 hy with hy | hy
    · exact h.gu y hy
    · simp at hy; subst hy; exact hx
end
/-- Counts are below a bound. -/
def CntLe (L : WL) (N : Int) : Prop := ∀ b ∈ L, b.n ≤ N
def DoPost (w0 : World) (pp : Nat) (vT vX : Value) (m k : Nat) (e : Ending) (w' : World) : Prop :=
  e = .returned (.bool true) ∧ ∃ S1 S2 s G gv, WkP w0 pp vT vX S1 S2 s s G gv w' ∧ G.length ≤ m ∧ CntLe s.L m ∧ s.A.most = k
theorem WkOf.most {s s' : Ws} {t h e : Int} {k : Nat} (hr : WkOf s t s' h e) (hk : s.A.most = k) : s'.A.most = k := hr.places.2.trans hk
theorem WkDn.most {s s' : Ws} {h n e : Int} {k : Nat} (hr : WkDn s h s' n e) (hk : s.A.most = k) : s'.A.most = k := hr.places.2.trans hk
theorem WkUp.most {s s' : Ws} {h n e : Int} {k : Nat} (hr : WkUp s h s' n e) (hk : s.A.most = k) : s'.A.most = k := by
  cases hr with
  | stale => exact hk
  | top => exact hk
  | ok => exact hk
theorem CntLe.of {s s' : Ws} {t h e : Int} {m : Nat} (hc : CntLe s.L m) (hr : WkOf s t s' h e) : CntLe s'.L (m + 1 : Nat) := by
  cases hr with
  | up b hl hn =>
    intro o ho
    obtain ⟨p, hp, _, _, _, e, _⟩ := setn_key ho
    have h1 := hc p hp
    have h2 := hc b (lv_some hl).1
    rcases e with e | e <;> (rw [e]; omega)
  | top => intro o ho; have := hc o ho; omega
  | full => intro o ho; have := hc o ho; omega
  | new =>
    intro o ho
    rcases List.mem_append.1 ho with ho | ho
    · have := hc o ho; omega
    · simp at ho; subst ho; simp; omega
theorem CntLe.up {s s' : Ws} {h n e : Int} {m : Nat} (hc : CntLe s.L m) (hr : WkUp s h s' n e) : CntLe s'.L (m + 1 : Nat) := by
  cases hr with
  | stale => intro o ho; have := hc o ho; omega
  | top => intro o ho; have := hc o ho; omega
  | ok b hf hn =>
    intro o ho
    obtain ⟨p, hp, _, _, _, e, _⟩ := setn_key ho
    have h1 := hc p hp
    have h2 := hc b (fb_some hf).1
    rcases e with e | e <;> (rw [e]; omega)
theorem CntLe.dn {s s' : Ws} {h n e : Int} {m : Nat} (hc : CntLe s.L m) (hr : WkDn s h s' n e) : CntLe s'.L (m + 1 : Nat) := by
  cases hr with
  | stale => intro o ho; have := hc o ho; omega
  | more b hf hn =>
    intro o ho
    obtain ⟨p, hp, _, _, _, e, _⟩ := setn_key ho
    have h1 := hc p hp
    have h2 := hc b (fb_some hf).1
    rcases e with e | e <;> (rw [e]; omega)
  | last => intro o ho; have := hc o (mem_cutb.1 ho).1; omega
theorem CntLe.die {L : WL} {t : Int} {m : Nat} (hc : CntLe L m) : CntLe (dieL L t) (m + 1 : Nat) := by
  intro o ho
  unfold dieL at ho
  cases hl : lv L t with
  | none => rw [hl] at ho; have := hc o ho; omega
  | some b =>
    rw [hl] at ho
    obtain ⟨p, hp, e⟩ := mem_kill.1 ho
    have h1 := hc p hp
    have : o.n = p.n := by rw [e]; split <;> rfl
    omega
end Go.Proofs.Ytmampaglemleoab
