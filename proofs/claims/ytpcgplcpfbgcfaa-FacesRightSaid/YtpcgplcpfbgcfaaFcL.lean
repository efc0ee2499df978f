/-
  The contract of a line's iterator.
-/
import Derived.RangeFuncNested
import Derived.RangeFuncBound
import Derived.RangeFuncCalls
import Derived.RangeFuncLeaves
import Derived.RangeFuncFrom
import Derived.RangeFuncBox
import Derived.Shelf.Abstract
import Derived.OwnWalkIn
import Derived.TacticsInMore
import Derived.LoopNIn
import Derived.LoopIn
import Derived.Test.YtpcgplcpfbgcfaaFcA
namespace Go.Proofs.Ytpcgplcpfbgcfaa
open Go Go.ChangeShapes Go.WideShapes Go.ChangeAt Go.RowKit Go.Shelf
attribute [local go_sem] Oper.semAt_some

/-- What a loop's body keeps: the cells in these blocks. -/
def KS (S : Nat → Prop) (W W' : World) : Prop := ∀ (k : Nat) (cs : Array Value) (t : TypeId) (fr : Nat × Nat), S k → W.heap[k]? = some (.cells cs t fr) → W'.heap[k]? = some (.cells cs t fr)
theorem KS.refl (S : Nat → Prop) (W : World) : KS S W W := fun _ _ _ _ _ h => h
theorem KS.t {S : Nat → Prop} {A B C : World} (h : KS S A B) (k : KS S B C) : KS S A C := fun j cs t fr hS hj => k j cs t fr hS (h j cs t fr hS hj)
theorem KS.b (S : Nat → Prop) (W : World) (l : Nat) (o o' : Obj) (h : W.heap[l]? = some o) (hc : o.isCells = false) : KS S W (W.putObj l o') := fun k cs t fr _ hk => by
  have hne : k ≠ l := fun e => by subst e; rw [hk] at h; cases h; cases hc
  rw [World.putObj_heap_other hne]; exact hk
theorem KS.cell {S : Nat → Prop} {W W' : World} {p : Addr} {v : Value} (h : KS S W W') (hp : S p.block) (hc : W.cell? p = some v) : W'.cell? p = some v := by
  have hh : ∃ cs t fr, W.heap[p.block]? = some (.cells cs t fr) := by
    unfold World.cell? at hc
    split at hc
    · rename_i c e f hb; exact ⟨_, _, _, hb⟩
    · cases hc
  obtain ⟨cs, t, fr, hb⟩ := hh
  rw [World.cell?_of_block (w := W) (w' := W') (a := p) (by rw [hb, h _ _ _ _ hp hb])]
  exact hc
theorem FRow.ks {S : Nat → Prop} {W W' : World} {B : Nat} {ad : Option Addr} {l : List Face} (h : FRow W B ad l) (hk : KS S W W') (hS : ∀ k, k < B → S k) : FRow W' B ad l :=
  ⟨h.some, fun b o ha i f hf j v hv => by
    obtain ⟨b', o', h1, h2⟩ := h.some (by have := (List.getElem?_eq_some_iff.1 hf).1; omega)
    rw [ha] at h1; cases h1
    exact hk.cell (p := ⟨b, o + i * 17 + j, none⟩) (hS b h2) (h.cells b o ha i f hf j v hv), h.len, h.ok⟩
theorem KS.alloc {S : Nat → Prop} {A W : World} (h : KS S A W) (o : Obj) : KS S A (W.alloc o) := fun k cs t fr hS hk => by
  have h1 := h k cs t fr hS hk
  rw [Below.heap_alloc _ _ _ (Array.getElem?_eq_some_iff.1 h1).1]; exact h1
theorem KS.set {S : Nat → Prop} {A W : World} (h : KS S A W) (p : Addr) (u : Value) (hp : ¬ S p.block) : KS S A (W.setCell p u) := fun k cs t fr hS hk => by
  rw [Below.heap_setCell _ _ _ _ (fun e => hp (by rw [← e]; exact hS))]; exact h k cs t fr hS hk
theorem KS.grown {S : Nat → Prop} {A W W' : World} {row : Option Nat} (h : KS S A W) (hg : W.grownBy W' row) (hr : ∀ k, row = some k → ¬ S k) : KS S A W' := fun k cs t fr hS hk => by
  have h1 := h k cs t fr hS hk
  rw [hg.block k (Array.getElem?_eq_some_iff.1 h1).1 (fun e => hr k e.symm hS)]; exact h1
/-- A place of a line. -/
abbrev Pl (l : List Face) (i : Int) := { k : Nat // k ∈ lineL l i }
theorem attach_at {L : List Nat} {q k : Nat} (h : L[q]? = some k) (hk : k ∈ L) : L.attach[q]? = some ⟨k, hk⟩ := by
  simp [h]
def IterPost (l : List Face) (i : Int) (J Jx : List (Pl l i) → World → Prop) (e : Ending) (W' : World) : Prop :=
  (∃ v, e = .returned v) ∧ ((∃ ys, ys = (lineL l i).attach ∧ J ys W') ∨ (∃ pre, pre <+: (lineL l i).attach ∧ Jx pre W'))
set_option maxRecDepth 100000 in
set_option maxHeartbeats 1000000 in
theorem iter_any (n lp Bi Bl cap B N : Nat) (S : Nat → Prop) (ad : Option Addr) (l : List Face) (i : Int) (J Jx : List (Pl l i) → World → Prop)
    (hY : ∀ pre (x : Pl l i) W, J pre W → pre.length < (lineL l i).length → YieldAt Fence.wide (n - 1) Try.prog lp #[.int .i64 (x.1 : Int)] W fun e W' =>
      (e = .returned (.bool true) ∧ J (pre ++ [x]) W' ∧ KS S W W') ∨ (e = .returned (.bool false) ∧ Jx (pre ++ [x]) W'))
    (W : World) (hBi : W.heap[Bi]? = some (.cells #[.int .i64 i] 3 (0, 0))) (hBl : W.heap[Bl]? = some (.cells #[.slice ad N cap] 22 (0, 0))) (hF : FRow W B ad l) (hN : N = l.length)
    (hS : ∀ k, k < B → S k) (hSl : S Bl) (h0 : J [] W) :
    CallsIn Fence.wide n Try.prog 32 #[.func (.yield lp) #[] #[], .pointer (some ⟨Bi, 0, none⟩), .pointer (some ⟨Bl, 0, none⟩)] W (IterPost l i J Jx) := by
  have HY := hid hY
  have H0 := hid h0
  have HF := hid hF
  have HBi := hid hBi
  have HBl := hid hBl
  have HN := hid hN
  have ci : W.cell? ⟨Bi, 0, none⟩ = some (.int .i64 i) := by rw [cell_of_row _ _ 0 _ _ _ hBi]; rfl
  have cl : W.cell? ⟨Bl, 0, none⟩ = some (.slice ad N cap) := by rw [cell_of_row _ _ 0 _ _ _ hBl]; rfl
  clear hY h0 hF hBi hBl hN
  refine callsIn_of_wp Try.func32 rfl trivial ?_ rfl
  simp only [Try.ntmps32, List.size_toArray, List.length_cons, List.length_nil, Nat.reduceAdd, Nat.reduceSub, Array.replicate_succ, Array.replicate_zero, List.push_toArray, List.append_toArray, List.nil_append, List.cons_append]
  by_cases hin : 0 ≤ i ∧ i < (N : Int)
  · obtain ⟨g0, g1⟩ := hin
    have d0 : decide (i < 0) = false := by simp; omega
    have d1 : decide ((N : Int) ≤ i) = false := by simp; omega
    obtain ⟨b, o, rfl, hb⟩ := HF.out.some (by have := HN.out; omega)
    have HB := hid hb
    clear hb
    gi_wp2
    gi_loopw [4] (fun p wr => ∃ q k : Nat, p = .int .i64 k ∧ RowKit.Hid ((lineL l i)[q]? = some k) ∧ RowKit.Hid (J ((lineL l i).attach.take q) wr) ∧ RowKit.Hid (KS S W wr)) (fun p _ => (intOf p).toNat)
    case atStart => exact ⟨0, i.toNat, by simp; omega, hid (lineL_head (by have := HN.out; omega)), hid (by simpa using H0.out), hid (KS.refl _ _)⟩
    case round =>
      obtain ⟨q, k, rfl, HQ, HJ, HK⟩ := hrel
      have hm := List.mem_of_getElem? HQ.out
      have hkl := (lineL_mem hm).1
      have htk : (lineL l i).attach.take (q + 1) = (lineL l i).attach.take q ++ [⟨k, hm⟩] := by
        have h1 := attach_at HQ.out hm
        rw [List.take_add_one, h1]; rfl
      have HT := hid htk
      have hf : l[k]? = some l[k] := List.getElem?_eq_getElem hkl
      generalize l[k] = f at hf
      have hy0 := HY.out ((lineL l i).attach.take q) ⟨k, hm⟩ wr HJ.out (by have := (List.getElem?_eq_some_iff.1 HQ.out).1; simp; omega)
      obtain ⟨fn, tmps, assign, body, hy, hRd⟩ := hy0
      dsimp only at hy
      have HRD := hid hRd
      have HM := hid hf
      have hkN : k < N := by have := HN.out; omega
      clear hRd htk hf hkl
      gi_wp2
      refine ⟨(fun h => by cases h), HRD.out.mono ?_⟩
      rintro e W3 (⟨rfl, hJ3, hk3⟩ | ⟨rfl, hJx3⟩)
      · have J3 := hid hJ3
        have K3 := hid (HK.out.t hk3)
        have c3 := K3.out.cell (p := ⟨Bl, 0, none⟩) hSl cl
        have b3 := (HF.out.ks K3.out hS).base HM.out
        clear hJ3 hk3
        by_cases hld : 0 ≤ f.base ∧ f.base < (k : Int)
        · have hnx := lineL_at HQ.out
          rw [nxt_some HM.out hld] at hnx
          have e1 : (decide (0 ≤ f.base) && decide (f.base < (k : Int))) = true := by simpa using hld
          have HNX := hid hnx
          obtain ⟨hl0, hl1⟩ := hld
          clear hnx
          gi_wp2
          refine ⟨trivial, (fun h => by cases h), (callsIn_wide.2 (leads_any _ _ _)).mono ?_⟩
          rintro e w' ⟨rfl, rfl⟩
          rw [e1]
          clear e1
          gi_wp2
          go_roundw
          case rel => exact ⟨q + 1, f.base.toNat, by simp; omega, HNX, by rw [HT.out]; exact J3, K3⟩
          case measure => simp [intOf]; omega
        · have hnx := lineL_at HQ.out
          rw [nxt_none HM.out hld] at hnx
          have e1 : (decide (0 ≤ f.base) && decide (f.base < (k : Int))) = false := by simpa using hld
          have hall : (lineL l i).attach.take (q + 1) = (lineL l i).attach := List.take_of_length_le (by have := List.getElem?_eq_none_iff.1 hnx; simp; omega)
          rw [HT.out] at hall
          have HA := hid hall
          clear hnx hld hall
          gi_wp2
          refine ⟨trivial, (fun h => by cases h), (callsIn_wide.2 (leads_any _ _ _)).mono ?_⟩
          rintro e w' ⟨rfl, rfl⟩
          rw [e1]
          clear e1
          gi_wp2
          go_end0
          exact ⟨⟨_, rfl⟩, .inl ⟨_, rfl, by have := J3.out; rw [HA.out] at this; exact this⟩⟩
      · have J3 := hid hJx3
        clear hJx3
        gi_wp2
        refine ⟨trivial, ?_⟩
        gi_wp2
        go_end0
        exact ⟨⟨_, rfl⟩, .inr ⟨_, (by have h := List.take_prefix (q + 1) (lineL l i).attach; rw [HT.out] at h; exact h), J3.out⟩⟩
  · have hnil : (lineL l i).attach = [] := by rw [List.attach_eq_nil_iff]; exact lineL_out (by have := HN.out; omega)
    have HE := hid hnil
    clear hnil
    by_cases h1 : i < 0
    · have d0 : decide (i < 0) = true := by simpa using h1
      clear hin
      gi_wp2
      refine bodyPost_ret (results_none rfl _ _ _) rfl ?_
      exact ⟨⟨_, rfl⟩, .inl ⟨_, rfl, by rw [HE.out]; exact H0.out⟩⟩
    · have d0 : decide (i < 0) = false := by simpa using h1
      have d1 : decide ((N : Int) ≤ i) = true := by simp; omega
      clear hin
      gi_wp2
      refine bodyPost_ret (results_none rfl _ _ _) rfl ?_
      exact ⟨⟨_, rfl⟩, .inl ⟨_, rfl, by rw [HE.out]; exact H0.out⟩⟩
/-- A line's iterator stops as the laws of ranges ask. -/
theorem line_stops (n Bi Bl cap B N : Nat) (S : Nat → Prop) (ad : Option Addr) (l : List Face) (i : Int) (w : World) (hBi : Boxed w Bi 3 (.int .i64 i)) (hBl : Boxed w Bl 22 (.slice ad N cap)) (hF : FRow w B ad l) (hN : N = l.length) (hB : B ≤ w.heap.size)
    (hS : ∀ k, k < B → S k) (hSl : S Bl) :
    SeqStopsK Fence.wide n Try.prog 32 #[.pointer (some ⟨Bi, 0, none⟩), .pointer (some ⟨Bl, 0, none⟩)] (fun x : Pl l i => #[.int .i64 (x.1 : Int)]) (KS S) (fun ys => ys = (lineL l i).attach) (fun pre => pre <+: (lineL l i).attach) (lineL l i).length w := fun lp J Jx W hW _ _ hY h0 =>
  iter_any n lp Bi Bl cap B N S ad l i J Jx hY W ((hW.block Bi hBi.lt).trans hBi) ((hW.block Bl hBl.lt).trans hBl) (hF.below (hW.mono hB)) hN hS hSl h0
end Go.Proofs.Ytpcgplcpfbgcfaa
