/-
  The laws of layer 11: HeapChain's steps, plainly.
-/
import Derived.Test.YtceokibalphgpaaHpG
namespace Go.Proofs.Ytceokibalphgpaa
open Go Go.ChangeShapes Go.WideShapes Go.ChangeAt Go.RowKit

theorem last_mem {l : List Int} {last : Int} (h : l.getLast? = some last) : last ∈ l := List.mem_of_getLast? h
/-- A link laid to what was made last, and that let go of: the chain is longer by one. -/
theorem put_step {s s' : Hs} {l : List Int} {last y er : Int} {g f : List Int} (hL : s.L = chn none l ++ [newOb y 0 1]) (hn : (l ++ [y]).Nodup) (hl : l.getLast? = some last) (ht : s.top = 9) (hp : PuR s last 0 ⟨1, y⟩ s' g f er) :
    s'.L = setl (setc s.L y 2) last 0 ⟨1, y⟩ ∧ s'.A = s.A ∧ s'.top = s.top := by
  have hnd : Nd s.L := by rw [hL]; unfold Nd; rw [List.map_append, chn_h]; exact hn
  have hnl : l.Nodup := (List.nodup_append.1 hn).1
  obtain ⟨o', ho', hh', hk', hu'⟩ := chn_last l last hl hnl
  have hm' : o' ∈ s.L := by rw [hL]; exact List.mem_append.2 (.inl ho')
  have hfo : fnd s.L last = some o' := by rw [← hh']; exact fnd_mem hnd hm'
  have hmy : newOb y 0 1 ∈ s.L := by rw [hL]; simp
  have hwy : whl s.L y = some (newOb y 0 1) := whl_self hnd hmy rfl
  have HU : ∀ {s1 n e}, UpR s y s1 n e → e = 0 ∧ s1.L = setc s.L y 2 ∧ s1.A = s.A := fun h => by
    cases h with
    | stale hw => rw [hwy] at hw; cases hw
    | top w hw hc => rw [hwy] at hw; cases hw; simp [newOb, ht] at hc
    | ok w hw hc => rw [hwy] at hw; cases hw; exact ⟨rfl, rfl, rfl⟩
  cases hp with
  | stale hf => rw [hfo] at hf; cases hf
  | arg o hf hb => rw [hfo] at hf; cases hf; rw [hk'] at hb; simp at hb
  | no o hf hs hk hu he => exact absurd (HU hu).1 he
  | obj o hf hs hk hu ho hp ha =>
    rw [hfo] at hf; cases hf
    obtain ⟨_, e1, _⟩ := HU hu
    rw [hk'] at ho
    simp at ho
    subst ho
    obtain ⟨rfl, rfl, _⟩ := pu_for (by decide) hp
    cases ha
    exact ⟨by rw [e1]; rfl, rfl, rfl⟩
  | oth o hf hs hk ho hp ha => simp at hk
theorem down_step {s s' : Hs} {l : List Int} {last y er : Int} {g f : List Int} (hL : s.L = setl (setc (chn none l ++ [newOb y 0 1]) y 2) last 0 ⟨1, y⟩) (hn : (l ++ [y]).Nodup) (hl : l.getLast? = some last) (hd : DnR s y s' g f er) :
    s'.L = chn none (l ++ [y]) ∧ s'.A = s.A ∧ s'.top = s.top := by
  have hnd : Nd s.L := by rw [hL]; unfold Nd; rw [setl_h, setc_h, List.map_append, chn_h]; exact hn
  have hyl : y ≠ last := fun e => by
    have := (List.nodup_append.1 hn).2.2 last (last_mem hl) y (by simp)
    exact this e.symm
  have hmy : (⟨y, 0, 2, 0, [⟨0, 0⟩], []⟩ : Ob) ∈ s.L := by
    rw [hL]
    refine mem_setl.2 ⟨⟨y, 0, 2, 0, [⟨0, 0⟩], []⟩, mem_setc.2 ⟨newOb y 0 1, by simp, by simp [newOb]⟩, by simp [hyl]⟩
  have h1 := let1_one hnd hmy rfl (by simp)
  have h2 : Dn s.L y (setc s.L y 1) [] [] := ⟨[], by rw [letg_one, h1]; simp; exact Goes.nil _, by rw [letg_one, h1]; rfl⟩
  cases hd with
  | stale hf => exact absurd rfl (fnd_none.1 hf _ hmy)
  | ok o hf hdn hdr =>
    obtain ⟨f2, g2, hf2⟩ := hdn
    obtain ⟨f3, g3, hf3⟩ := h2
    obtain ⟨e1, e2, e3⟩ := g2.same g3
    subst e2
    cases hdr
    refine ⟨?_, rfl, rfl⟩
    simp only [e1]
    rw [hL]
    exact chn_more l y hn last hl
theorem down_chn {s s' : Hs} {l : List Int} {h er : Int} {K : Option Nat} {g f : List Int} (hL : s.L = chn K (h :: l)) (hn : (h :: l).Nodup) (hd : DnR s h s' g f er) :
    er = 0 ∧ g = took K (h :: l) ∧ f = [] ∧ DrR s.A g s'.A := by
  obtain ⟨L1, ⟨f3, g3, hf3⟩, _⟩ := dn_chn l h K hn
  cases hd with
  | stale hf =>
    have hm : h ∈ s.L.map (·.h) := by rw [hL, chn_h]; simp
    obtain ⟨ob, ho, e⟩ := List.mem_map.1 hm
    exact absurd e (fnd_none.1 hf ob ho)
  | ok o hf hdn hdr =>
    obtain ⟨f2, g2, hf2⟩ := hdn
    rw [hL] at g2 hf2
    obtain ⟨e1, e2, e3⟩ := g2.same g3
    exact ⟨rfl, e2, by rw [hf2, e3, ← hf3], hdr⟩
theorem chn_at1 : ∀ (l : List Int) (h : Int), h ∈ l → ∃ o ∈ chn none l, o.h = h ∧ o.outer = 0 ∧ o.inners = [] ∧ o.count = 1 ∧ o.links.length = 1
  | a :: l, h, hh => by
    rcases List.mem_cons.1 hh with rfl | hh
    · exact ⟨_, List.mem_cons_self .., rfl, rfl, rfl, rfl, rfl⟩
    · obtain ⟨o, ho, h1⟩ := chn_at1 l h hh
      exact ⟨o, List.mem_cons_of_mem _ ho, h1⟩
theorem up_chn {s s' : Hs} {l : List Int} {k : Nat} {h n er : Int} (hL : s.L = chn none l) (hn : l.Nodup) (hk : l[k]? = some h) (ht : s.top = 9) (hu : UpR s h s' n er) : s'.L = chn (some k) l ∧ s'.A = s.A := by
  have hnd : Nd s.L := by rw [hL]; exact chn_nd hn none
  obtain ⟨o, ho, hh, h0, _, hc, _⟩ := chn_at1 l h (List.mem_of_getElem? hk)
  rw [← hL] at ho
  have hw0 : whl s.L h = some o := by rw [← hh]; exact whl_self hnd ho h0
  cases hu with
  | stale hw => rw [hw0] at hw; cases hw
  | top w hw hc2 => rw [hw0] at hw; cases hw; rw [ht, hc] at hc2; omega
  | ok w hw hc2 =>
    rw [hw0] at hw; cases hw
    refine ⟨?_, rfl⟩
    simp only [hc, hh, hL]
    exact chn_up l k h hn hk
theorem hs1_cons {n : Nat} (h : 1 ≤ n) : ∃ tl, hs1 n = hand 0 1 :: tl := by
  obtain ⟨k, rfl⟩ : ∃ k, n = k + 1 := ⟨n - 1, by omega⟩
  unfold hs1
  rw [List.range_eq_range', List.range'_succ]
  exact ⟨_, rfl⟩
theorem RowS.tell {T : TypeId} {f : Int → Value} {S : Nat → Prop} {B : Nat} {w : World} {g n cap : Nat} {xs : List Int} (h : RowS T f S B w (.slice (some ⟨g, 0, none⟩) n cap) xs) (hn : n = xs.length) {k o : Nat} (hk : k ≤ n) (ho : o = k ∨ k = n) : Told T f w (.slice (some ⟨g, o, none⟩) (n - k) (cap - k)) (xs.drop k) := by
  obtain ⟨a, c, hv, h1, h2, h3⟩ := h.form
  rw [← hn] at hv
  cases hv
  refine ⟨_, _, by rw [List.length_drop, ← hn], by rw [List.length_drop, ← hn]; omega, by omega, fun hl => ?_⟩
  obtain ⟨g', hg, h4, h5, h6⟩ := h3 (by rw [List.length_drop] at hl; omega)
  cases hg
  obtain rfl : o = k := by rcases ho with e | e; exact e; rw [List.length_drop] at hl; omega
  refine ⟨g, o, rfl, h5, fun j u hu => ?_⟩
  rw [List.getElem?_map, Option.map_eq_some_iff] at hu
  obtain ⟨x, hx, rfl⟩ := hu
  rw [List.getElem?_drop] at hx
  exact h.cell hn hx
theorem exec_to {o : Oper} {f : Operand → Value} {W : World} {p h : Operand} {b oo n cap hi : Nat} (ho : o.op = .slice 43 p none (some h) none) (hp : f p = .slice (some ⟨b, oo, none⟩) n cap) (hh : f h = .int .i64 hi) (h2 : hi ≤ cap) :
    (execOp f o).run Try.prog W = .ok (.value (.slice (some ⟨b, oo, none⟩) hi cap)) W := by
  unfold execOp
  simp only [ho, hp]
  simp only [Option.map, hh]
  go_simp
theorem exec_from {o : Oper} {f : Operand → Value} {W : World} {p l : Operand} {b oo o2 n cap lo : Nat} (ho : o.op = .slice 43 p (some l) none none) (hp : f p = .slice (some ⟨b, oo, none⟩) n cap) (hl : f l = .int .i64 lo) (h1 : lo ≤ n) (h2 : cap = lo ∧ o2 = oo ∨ ¬ cap = lo ∧ o2 = oo + lo) :
    (execOp f o).run Try.prog W = .ok (.value (.slice (some ⟨b, o2, none⟩) (n - lo) (cap - lo))) W := by
  unfold execOp
  simp only [ho, hp]
  simp only [Option.map, hl]
  rcases h2 with ⟨h3, rfl⟩ | ⟨h3, rfl⟩
  · go_simp
  · go_simp
/-- A chain, ahead of its end: what goes is told. -/
structure ChE (Rp : (Nat → Prop) → World → Value → Hs → Prop) (w : World) (p v : Value) (i q : Nat) (wr : World) : Prop where
  ex : ∃ S s K, RowS TU u64v S w.heap.size wr v (hs1 i) ∧ (∀ b, S b → w.heap.size ≤ b) ∧ Rp S wr p s ∧ s.L = chn K (hs1 i) ∧ took K (hs1 i) = (hs1 i).take q ∧ Qk s.A i 0
  b : Below w.heap.size w wr
theorem end_all {s s' : Hs} {i q : Nat} {er : Int} {K : Option Nat} {g f : List Int} (hi : 1 ≤ i) (hq : q ≤ i) (hL : s.L = chn K (hs1 i)) (hK : took K (hs1 i) = (hs1 i).take q) (hQ : Qk s.A i 0) (hd : DnR s (hand 0 1) s' g f er) :
    er = 0 ∧ g = (hs1 i).take q ∧ f = [] ∧ allA s'.A = (hs1 i).drop q := by
  obtain ⟨tl, e⟩ := hs1_cons hi
  have hn : (hand 0 1 :: tl).Nodup := by rw [← e]; exact hs1_nd i
  rw [e] at hL
  obtain ⟨e1, e2, e3, e4⟩ := down_chn hL hn hd
  rw [← e, hK] at e2
  refine ⟨e1, e2, e3, ?_⟩
  rw [e2, hs1_take hq] at e4
  have := hQ.drops q e4
  rw [Nat.zero_add] at this
  exact this.all
end Go.Proofs.Ytceokibalphgpaa
