/-
  An act done to a table and to its plain twin: both answer alike; a pair begun.
-/
import Derived.Test.YtmampaglemleoabWkUOf
import Derived.Test.YtmampaglemleoabWkUUp
import Derived.Test.YtmampaglemleoabWkUDown
import Derived.Test.YtmampaglemleoabWkUDie
import Derived.Test.YtmampaglemleoabWkULock
namespace Go.Proofs.Ytmampaglemleoab
open Go Go.ChangeShapes Go.WideShapes Go.ChangeAt Go.RowKit

theorem WkDo_any (w0 w : World) (pp m : Nat) (vT vX gv : Value) (S1 S2 : Nat → Prop) (s : Ws) (G : List Int) (x : WAct) (h : WkP w0 pp vT vX S1 S2 s s G gv w) (hx : WActOk x) (hm : m ≤ 300) (hg : G.length ≤ m) (hc : CntLe s.L m) {km : Nat} (hk : s.A.most = km) :
    Calls Try.prog 11 #[.pointer (some ⟨pp, 0, none⟩), .agg (wac x).toArray] w (DoPost w0 pp vT vX (m + 1) km) := by
  have h0 := Int.emod_nonneg x.kind (show (7 : Int) ≠ 0 by omega)
  have h1 := Int.emod_lt_of_pos x.kind (show (0 : Int) < 7 by omega)
  rcases (show (x.kind % 7 = 0 ∨ x.kind % 7 = 1) ∨ x.kind % 7 = 2 ∨ (x.kind % 7 = 3 ∨ x.kind % 7 = 4) ∨ x.kind % 7 = 5 ∨ x.kind % 7 = 6 by omega) with q | q | q | q | q
  · exact WkDo_Of w0 w pp m vT vX gv S1 S2 s G x h hx hm hg hc hk q
  · exact WkDo_Up w0 w pp m vT vX gv S1 S2 s G x h hx hm hg hc hk q
  · exact WkDo_Down w0 w pp m vT vX gv S1 S2 s G x h hx hm hg hc hk q
  · exact WkDo_Die w0 w pp m vT vX gv S1 S2 s G x h hx hm hg hc hk q
  · exact WkDo_Lock w0 w pp m vT vX gv S1 S2 s G x h hx hm hg hc hk q
/-- Between two acts. -/
def WkPI (w0 : World) (pp : Nat) (vT vX : Value) (i k : Nat) (w : World) : Prop := ∃ S1 S2 s G gv, WkP w0 pp vT vX S1 S2 s s G gv w ∧ G.length ≤ i ∧ CntLe s.L i ∧ s.A.most = k
theorem WkPI.no {w0 w w' : World} {pp i k : Nat} {vT vX : Value} (h : WkPI w0 pp vT vX i k w) (hf : Fr (fun _ => False) w w') : WkPI w0 pp vT vX i k w' := by
  obtain ⟨S1, S2, s, G, gv, h1, h2, h3⟩ := h
  exact ⟨S1, S2, s, G, gv, h1.no hf, h2, h3⟩
theorem WkPI.below {w0 w : World} {pp i k : Nat} {vT vX : Value} (h : WkPI w0 pp vT vX i k w) : Below w0.heap.size w0 w := by
  obtain ⟨S1, S2, s, G, gv, h1, _⟩ := h
  exact h1.below
theorem WkPI.do {w0 w : World} {pp i k : Nat} {vT vX : Value} (h : WkPI w0 pp vT vX i k w) (hi : i ≤ 300) {x : WAct} (hx : WActOk x) :
    Calls Try.prog 11 #[.pointer (some ⟨pp, 0, none⟩), .agg (wac x).toArray] w fun e w' => e = .returned (.bool true) ∧ WkPI w0 pp vT vX (i + 1) k w' := by
  obtain ⟨S1, S2, s, G, gv, h1, h2, h3, h4⟩ := h
  exact WkDo_any w0 w pp i vT vX gv S1 S2 s G x h1 hx hi h2 h3 h4
/-- A pair is laid. -/
theorem WkPI.begin {w0 w1 w2 w3 : World} {vT vX : Value} {S1 S2 : Nat → Prop} {A : Ar} (hb1 : Below w0.heap.size w0 w1) (hS1 : ∀ b, S1 b → w0.heap.size ≤ b) (h1 : RpW S1 w1 vT ⟨A, []⟩) (hb2 : Below w1.heap.size w1 w2) (hS2 : ∀ b, S2 b → w1.heap.size ≤ b) (h2 : RfT S2 w2 vX ⟨A, []⟩)
    (hw : w3 = w2.alloc (.cells #[vT, vX, .slice none 0 0] 33)) : WkPI w0 w2.heap.size vT vX 0 A.most w3 := by
  have hf : Fr (fun _ => False) w2 w3 := by rw [hw]; exact (Fr.refl _ _).alloc _
  refine ⟨S1, S2, ⟨A, []⟩, [], .slice none 0 0, ⟨by rw [hw]; exact heap_alloc_new _ _, (h1.no (Fr.of_below hb2)).no hf, h2.no hf, RowS.nil _ _ _ _ _, fun b h3 h4 => ?_, fun e => ?_, fun e => ?_, hS1, fun b hb => Nat.le_trans hb1.size (hS2 b hb), Nat.le_trans hb1.size hb2.size, (hb1.trans (hb2.mono hb1.size)).trans (hf.below (B := w0.heap.size) (Nat.le_trans hb1.size hb2.size) (fun _ e => e.elim)), by simp⟩, by simp, (fun o ho => by cases ho), rfl⟩
  · have := h1.lt b h3; have := hS2 b h4; omega
  · have := h1.lt _ e; have := hb2.size; omega
  · have := h2.lt _ e; omega
end Go.Proofs.Ytmampaglemleoab
