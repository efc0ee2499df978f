/- HpG HpJ HpB HpQ HqY HsE HsF HsG HsH in one -/
import Derived.Test.YtmkajdfajcodjaaHpI
import Derived.Test.YtmkajdfajcodjaaHpN
import Derived.Test.YtmkajdfajcodjaaHqX
import Derived.Test.YtmkajdfajcodjaaHsD
import Derived.Test.YtmkajdfajcodjaaHpA
import Derived.Test.YtmkajdfajcodjaaPick
import Derived.Test.YtmkajdfajcodjaaMixC
import Derived.Test.YtmkajdfajcodjaaGen
import Derived.Test.YtmkajdfajcodjaaHpS
namespace Go.Proofs.Ytmkajdfajcodjaa
open Go Go.ChangeShapes Go.WideShapes Go.ChangeAt Go.RowKit

def hs1 (n : Nat) : List Int := (List.range n).map fun j => hand j 1
/-- The first k places were dropped. -/
structure Qk (A : Ar) (n k : Nat) : Prop where
  l : A.L.length = n
  q : ∀ (i : Nat) sp, A.L[i]? = some sp → (i < k → sp.t = false) ∧ (k ≤ i → sp.t = true ∧ sp.g = 1)
theorem all_q : ∀ (L : List Spot) (off k : Nat), (∀ (i : Nat) sp, L[i]? = some sp → (off + i < k → sp.t = false) ∧ (k ≤ off + i → sp.t = true ∧ sp.g = 1)) → ((L.zipIdx off).filter (·.1.t)).map (fun p => hand p.2 p.1.g) = ((List.range' off L.length).drop (k - off)).map fun j => hand j 1
  | [], off, k, _ => by simp
  | a :: L, off, k, h => by
    have h0 := h 0 a rfl
    have ih := all_q L (off + 1) k fun i sp hi => by
      have := h (i + 1) sp (by simpa using hi)
      rw [show off + (i + 1) = off + 1 + i by omega] at this
      exact this
    rw [List.zipIdx_cons, List.length_cons, List.range'_succ]
    by_cases hk : off < k
    · have ht := h0.1 (by omega)
      rw [List.filter_cons_of_neg (by simp [ht]), ih, show k - off = (k - (off + 1)) + 1 by omega, List.drop_succ_cons]
    · obtain ⟨ht, hg⟩ := h0.2 (by omega)
      rw [List.filter_cons_of_pos (by simpa using ht), List.map_cons, ih, show k - off = 0 by omega, show k - (off + 1) = 0 by omega, List.drop_zero, List.drop_zero, List.map_cons]
      simp [hg]
theorem Qk.all {A : Ar} {n k : Nat} (h : Qk A n k) : allA A = (hs1 n).drop k := by
  unfold allA
  rw [all_q A.L 0 k fun i sp hi => by rw [Nat.zero_add]; exact h.q i sp hi, h.l, Nat.sub_zero, ← List.range_eq_range']
  unfold hs1
  rw [List.map_drop]
theorem hand_inj {i j : Nat} (h : hand i 1 = hand j 1) : i = j := by unfold hand at h; omega
theorem Qk.drop {A : Ar} {n k i : Nat} {sp : Spot} (h : Qk A n k) (hf : Found A (hand k 1) i sp) : Qk (dropAt A i sp) n (k + 1) := by
  obtain ⟨h1, h2, h3⟩ := hf
  have hki : k ≤ i := Nat.le_of_not_lt fun hlt => by
    have := (h.q i sp h1).1 hlt
    rw [h2] at this; cases this
  have hg := ((h.q i sp h1).2 hki).2
  rw [hg] at h3
  have hik := hand_inj h3
  subst hik
  have hil := (List.getElem?_eq_some_iff.1 h1).1
  unfold dropAt
  rw [if_pos (by omega)]
  refine ⟨by simp [h.l], fun j s2 hj => ?_⟩
  simp only [List.getElem?_set] at hj
  split at hj
  · rename_i e
    subst e
    simp at hj
    subst hj
    exact ⟨fun _ => rfl, fun hle => by omega⟩
  · have := h.q j s2 hj
    exact ⟨fun hlt => this.1 (by omega), fun hle => this.2 (by omega)⟩
theorem Qk.drops {n : Nat} : ∀ (m : Nat) {A A' : Ar} {k : Nat}, Qk A n k → DrR A ((List.range' k m).map fun j => hand j 1) A' → Qk A' n (k + m)
  | 0, A, A', k, h, hd => by cases hd; exact h
  | m + 1, A, A', k, h, hd => by
    rw [List.range'_succ, List.map_cons] at hd
    cases hd with
    | cons hf hr =>
      have := Qk.drops m (h.drop hf) hr
      rw [show k + 1 + m = k + (m + 1) by omega] at this
      exact this
theorem Frs.qk {A : Ar} {most n : Nat} (h : Frs A most n) (h1 : A.first = 1) : Qk A n 0 := ⟨h.l, fun i sp hi => ⟨fun hlt => by omega, fun _ => by rw [← h1]; exact h.t i sp hi⟩⟩
theorem hs1_take {n k : Nat} (hk : k ≤ n) : (hs1 n).take k = (List.range' 0 k).map fun j => hand j 1 := by
  unfold hs1
  rw [← List.map_take, List.take_range, Nat.min_eq_left hk, List.range_eq_range']
theorem hs1_succ (n : Nat) : hs1 (n + 1) = hs1 n ++ [hand n 1] := by unfold hs1; rw [List.range_succ, List.map_append]; rfl
theorem hs1_nd (n : Nat) : (hs1 n).Nodup := by
  unfold hs1
  unfold List.Nodup
  rw [List.pairwise_map]
  exact List.Pairwise.imp (fun hab e => hab (hand_inj e)) (List.nodup_range)
theorem hs1_len (n : Nat) : (hs1 n).length = n := by simp [hs1]
/-- A chain, under way. -/
structure ChI (Rp : (Nat → Prop) → World → Value → Hs → Prop) (w : World) (p v : Value) (i : Nat) (wr : World) : Prop where
  ex : ∃ S s, RowS TU u64v S w.heap.size wr v (hs1 i) ∧ (∀ b, S b → w.heap.size ≤ b) ∧ Rp S wr p s ∧ s.L = chn none (hs1 i) ∧ s.top = 9 ∧ Frs s.A 100 i ∧ s.A.first = 1
  b : Below w.heap.size w wr
/-- What the chain's objects are. -/
theorem chn_at : ∀ (l : List Int) (k : Option Nat) (h : Int), h ∈ l → ∃ o ∈ chn k l, o.h = h ∧ o.outer = 0 ∧ o.inners = [] ∧ (o.count = 1 ∨ o.count = 2) ∧ o.links.length = 1
  | a :: l, k, h, hh => by
    rcases List.mem_cons.1 hh with rfl | hh
    · refine ⟨_, List.mem_cons_self .., rfl, rfl, rfl, ?_, rfl⟩
      simp only
      split
      · exact .inr rfl
      · exact .inl rfl
    · obtain ⟨o, ho, h1⟩ := chn_at l (prv k) h hh
      exact ⟨o, List.mem_cons_of_mem _ ho, h1⟩
theorem chn_last : ∀ (l : List Int) (last : Int), l.getLast? = some last → l.Nodup → ∃ o ∈ chn none l, o.h = last ∧ o.links = [⟨0, 0⟩] ∧ o.outer = 0
  | [a], last, hl, _ => by
    simp at hl
    subst hl
    exact ⟨_, List.mem_cons_self .., rfl, rfl, rfl⟩
  | a :: b :: l, last, hl, hn => by
    rw [List.getLast?_cons_cons] at hl
    obtain ⟨o, ho, h1⟩ := chn_last (b :: l) last hl (List.nodup_cons.1 hn).2
    exact ⟨o, List.mem_cons_of_mem _ ho, h1⟩
end Go.Proofs.Ytmkajdfajcodjaa

namespace Go.Proofs.Ytmkajdfajcodjaa
open Go Go.ChangeShapes Go.WideShapes Go.ChangeAt Go.RowKit

theorem last_mem {l : List Int} {last : Int} (h : l.getLast? = some last) : last ∈ l := List.mem_of_getLast? h
/-- A link laid to what was made last, and that let go of: the chain is longer by one. -/
theorem put_step {s s' : Hs} {l : List Int} {last y er : Int} {g f : List Int} (hL : s.L = chn none l ++ [newOb y 0 1]) (hn : (l ++ [y]).Nodup) (hl : l.getLast? = some last) (ht : s.top = 9) (hp : PuR s last 0 ⟨1, y⟩ s' g f er) :
    s'.L = setl (setc s.L y 2) last 0 ⟨1, y⟩ ∧ s'.A = s.A ∧ s'.top = s.top := by
  have hnd : Nd s.L := by rw [hL]; unfold Nd; rw [List.map_append, chn_h]; exact hn
  have hnl : l.Nodup := (List.nodup_append.1 hn).1
  obtain ⟨o', ho', hh', hk', hu'⟩ := chn_last l last hl hnl
  have hm' : o' ∈ s.L := by rw [hL]; exact List.mem_append.2 (.inl ho')
  have hfo : fnd s.L last = some o' := by rw [← hh']; exact fnd_mem hnd hm'
  have hmy : newOb y 0 1 ∈ s.L := by rw [hL]; simp
  have hwy : whl s.L y = some (newOb y 0 1) := whl_self hnd hmy rfl
  have HU : ∀ {s1 n e}, UpR s y s1 n e → e = 0 ∧ s1.L = setc s.L y 2 ∧ s1.A = s.A := fun h => by
    cases h with
    | stale hw => rw [hwy] at hw; cases hw
    | top w hw hc => rw [hwy] at hw; cases hw; simp [newOb, ht] at hc
    | ok w hw hc => rw [hwy] at hw; cases hw; exact ⟨rfl, rfl, rfl⟩
  cases hp with
  | stale hf => rw [hfo] at hf; cases hf
  | arg o hf hb => rw [hfo] at hf; cases hf; rw [hk'] at hb; simp at hb
  | no o hf hs hk hu he => exact absurd (HU hu).1 he
  | obj o hf hs hk hu ho hp ha =>
    rw [hfo] at hf; cases hf
    obtain ⟨_, e1, _⟩ := HU hu
    rw [hk'] at ho
    simp at ho
    subst ho
    obtain ⟨rfl, rfl, _⟩ := pu_for (by decide) hp
    cases ha
    exact ⟨by rw [e1]; rfl, rfl, rfl⟩
  | oth o hf hs hk ho hp ha => simp at hk
theorem down_step {s s' : Hs} {l : List Int} {last y er : Int} {g f : List Int} (hL : s.L = setl (setc (chn none l ++ [newOb y 0 1]) y 2) last 0 ⟨1, y⟩) (hn : (l ++ [y]).Nodup) (hl : l.getLast? = some last) (hd : DnR s y s' g f er) :
    s'.L = chn none (l ++ [y]) ∧ s'.A = s.A ∧ s'.top = s.top := by
  have hnd : Nd s.L := by rw [hL]; unfold Nd; rw [setl_h, setc_h, List.map_append, chn_h]; exact hn
  have hyl : y ≠ last := fun e => by
    have := (List.nodup_append.1 hn).2.2 last (last_mem hl) y (by simp)
    exact this e.symm
  have hmy : (⟨y, 0, 2, 0, [⟨0, 0⟩], []⟩ : Ob) ∈ s.L := by
    rw [hL]
    refine mem_setl.2 ⟨⟨y, 0, 2, 0, [⟨0, 0⟩], []⟩, mem_setc.2 ⟨newOb y 0 1, by simp, by simp [newOb]⟩, by simp [hyl]⟩
  have h1 := let1_one hnd hmy rfl (by simp)
  have h2 : Dn s.L y (setc s.L y 1) [] [] := ⟨[], by rw [letg_one, h1]; simp; exact Goes.nil _, by rw [letg_one, h1]; rfl⟩
  cases hd with
  | stale hf => exact absurd rfl (fnd_none.1 hf _ hmy)
  | ok o hf hdn hdr =>
    obtain ⟨f2, g2, hf2⟩ := hdn
    obtain ⟨f3, g3, hf3⟩ := h2
    obtain ⟨e1, e2, e3⟩ := g2.same g3
    subst e2
    cases hdr
    refine ⟨?_, rfl, rfl⟩
    simp only [e1]
    rw [hL]
    exact chn_more l y hn last hl
theorem down_chn {s s' : Hs} {l : List Int} {h er : Int} {K : Option Nat} {g f : List Int} (hL : s.L = chn K (h :: l)) (hn : (h :: l).Nodup) (hd : DnR s h s' g f er) :
    er = 0 ∧ g = took K (h :: l) ∧ f = [] ∧ DrR s.A g s'.A := by
  obtain ⟨L1, ⟨f3, g3, hf3⟩, _⟩ := dn_chn l h K hn
  cases hd with
  | stale hf =>
    have hm : h ∈ s.L.map (·.h) := by rw [hL, chn_h]; simp
    obtain ⟨ob, ho, e⟩ := List.mem_map.1 hm
    exact absurd e (fnd_none.1 hf ob ho)
  | ok o hf hdn hdr =>
    obtain ⟨f2, g2, hf2⟩ := hdn
    rw [hL] at g2 hf2
    obtain ⟨e1, e2, e3⟩ := g2.same g3
    exact ⟨rfl, e2, by rw [hf2, e3, ← hf3], hdr⟩
theorem chn_at1 : ∀ (l : List Int) (h : Int), h ∈ l → ∃ o ∈ chn none l, o.h = h ∧ o.outer = 0 ∧ o.inners = [] ∧ o.count = 1 ∧ o.links.length = 1
  | a :: l, h, hh => by
    rcases List.mem_cons.1 hh with rfl | hh
    · exact ⟨_, List.mem_cons_self .., rfl, rfl, rfl, rfl, rfl⟩
    · obtain ⟨o, ho, h1⟩ := chn_at1 l h hh
      exact ⟨o, List.mem_cons_of_mem _ ho, h1⟩
theorem up_chn {s s' : Hs} {l : List Int} {k : Nat} {h n er : Int} (hL : s.L = chn none l) (hn : l.Nodup) (hk : l[k]? = some h) (ht : s.top = 9) (hu : UpR s h s' n er) : s'.L = chn (some k) l ∧ s'.A = s.A := by
  have hnd : Nd s.L := by rw [hL]; exact chn_nd hn none
  obtain ⟨o, ho, hh, h0, _, hc, _⟩ := chn_at1 l h (List.mem_of_getElem? hk)
  rw [← hL] at ho
  have hw0 : whl s.L h = some o := by rw [← hh]; exact whl_self hnd ho h0
  cases hu with
  | stale hw => rw [hw0] at hw; cases hw
  | top w hw hc2 => rw [hw0] at hw; cases hw; rw [ht, hc] at hc2; omega
  | ok w hw hc2 =>
    rw [hw0] at hw; cases hw
    refine ⟨?_, rfl⟩
    simp only [hc, hh, hL]
    exact chn_up l k h hn hk
theorem hs1_cons {n : Nat} (h : 1 ≤ n) : ∃ tl, hs1 n = hand 0 1 :: tl := by
  obtain ⟨k, rfl⟩ : ∃ k, n = k + 1 := ⟨n - 1, by omega⟩
  unfold hs1
  rw [List.range_eq_range', List.range'_succ]
  exact ⟨_, rfl⟩
theorem RowS.tell {T : TypeId} {f : Int → Value} {S : Nat → Prop} {B : Nat} {w : World} {g n cap : Nat} {xs : List Int} (h : RowS T f S B w (.slice (some ⟨g, 0, none⟩) n cap) xs) (hn : n = xs.length) {k o : Nat} (hk : k ≤ n) (ho : o = k ∨ k = n) : Told T f w (.slice (some ⟨g, o, none⟩) (n - k) (cap - k)) (xs.drop k) := by
  obtain ⟨a, c, hv, h1, h2, h3⟩ := h.form
  rw [← hn] at hv
  cases hv
  refine ⟨_, _, by rw [List.length_drop, ← hn], by rw [List.length_drop, ← hn]; omega, by omega, fun hl => ?_⟩
  obtain ⟨g', hg, h4, h5, h6⟩ := h3 (by rw [List.length_drop] at hl; omega)
  cases hg
  obtain rfl : o = k := by rcases ho with e | e; exact e; rw [List.length_drop] at hl; omega
  refine ⟨g, o, rfl, h5, fun j u hu => ?_⟩
  rw [List.getElem?_map, Option.map_eq_some_iff] at hu
  obtain ⟨x, hx, rfl⟩ := hu
  rw [List.getElem?_drop] at hx
  exact h.cell hn hx
theorem exec_to {o : Oper} {f : Operand → Value} {W : World} {p h : Operand} {b oo n cap hi : Nat} (ho : o.op = .slice 43 p none (some h) none) (hp : f p = .slice (some ⟨b, oo, none⟩) n cap) (hh : f h = .int .i64 hi) (h2 : hi ≤ cap) :
    (execOp f o).run Try.prog W = .ok (.value (.slice (some ⟨b, oo, none⟩) hi cap)) W := by
  unfold execOp
  simp only [ho, hp]
  simp only [Option.map, hh]
  go_simp
theorem exec_from {o : Oper} {f : Operand → Value} {W : World} {p l : Operand} {b oo o2 n cap lo : Nat} (ho : o.op = .slice 43 p (some l) none none) (hp : f p = .slice (some ⟨b, oo, none⟩) n cap) (hl : f l = .int .i64 lo) (h1 : lo ≤ n) (h2 : cap = lo ∧ o2 = oo ∨ ¬ cap = lo ∧ o2 = oo + lo) :
    (execOp f o).run Try.prog W = .ok (.value (.slice (some ⟨b, o2, none⟩) (n - lo) (cap - lo))) W := by
  unfold execOp
  simp only [ho, hp]
  simp only [Option.map, hl]
  rcases h2 with ⟨h3, rfl⟩ | ⟨h3, rfl⟩
  · go_simp
  · go_simp
/-- A chain, ahead of its end: what goes is told. -/
structure ChE (Rp : (Nat → Prop) → World → Value → Hs → Prop) (w : World) (p v : Value) (i q : Nat) (wr : World) : Prop where
  ex : ∃ S s K, RowS TU u64v S w.heap.size wr v (hs1 i) ∧ (∀ b, S b → w.heap.size ≤ b) ∧ Rp S wr p s ∧ s.L = chn K (hs1 i) ∧ took K (hs1 i) = (hs1 i).take q ∧ Qk s.A i 0
  b : Below w.heap.size w wr
theorem end_all {s s' : Hs} {i q : Nat} {er : Int} {K : Option Nat} {g f : List Int} (hi : 1 ≤ i) (hq : q ≤ i) (hL : s.L = chn K (hs1 i)) (hK : took K (hs1 i) = (hs1 i).take q) (hQ : Qk s.A i 0) (hd : DnR s (hand 0 1) s' g f er) :
    er = 0 ∧ g = (hs1 i).take q ∧ f = [] ∧ allA s'.A = (hs1 i).drop q := by
  obtain ⟨tl, e⟩ := hs1_cons hi
  have hn : (hand 0 1 :: tl).Nodup := by rw [← e]; exact hs1_nd i
  rw [e] at hL
  obtain ⟨e1, e2, e3, e4⟩ := down_chn hL hn hd
  rw [← e, hK] at e2
  refine ⟨e1, e2, e3, ?_⟩
  rw [e2, hs1_take hq] at e4
  have := hQ.drops q e4
  rw [Nat.zero_add] at this
  exact this.all
end Go.Proofs.Ytmkajdfajcodjaa

namespace Go.Proofs.Ytmkajdfajcodjaa
open Go Go.ChangeShapes Go.WideShapes Go.ChangeAt Go.RowKit

theorem put_ok {s s' : Hs} {l : List Int} {last y er : Int} {g f : List Int} (hL : s.L = chn none l ++ [newOb y 0 1]) (hn : (l ++ [y]).Nodup) (hl : l.getLast? = some last) (ht : s.top = 9) (hp : PuR s last 0 ⟨1, y⟩ s' g f er) : er = 0 ∧ g = [] ∧ f = [] := by
  have hnd : Nd s.L := by rw [hL]; unfold Nd; rw [List.map_append, chn_h]; exact hn
  have hnl : l.Nodup := (List.nodup_append.1 hn).1
  obtain ⟨o', ho', hh', hk', hu'⟩ := chn_last l last hl hnl
  have hm' : o' ∈ s.L := by rw [hL]; exact List.mem_append.2 (.inl ho')
  have hfo : fnd s.L last = some o' := by rw [← hh']; exact fnd_mem hnd hm'
  have hmy : newOb y 0 1 ∈ s.L := by rw [hL]; simp
  have hwy : whl s.L y = some (newOb y 0 1) := whl_self hnd hmy rfl
  have HU : ∀ {s1 n e}, UpR s y s1 n e → e = 0 := fun h => by
    cases h with
    | stale hw => rw [hwy] at hw; cases hw
    | top w hw hc => rw [hwy] at hw; cases hw; simp [newOb, ht] at hc
    | ok w hw hc => rfl
  cases hp with
  | stale hf => rw [hfo] at hf; cases hf
  | arg o hf hb => rw [hfo] at hf; cases hf; rw [hk'] at hb; simp at hb
  | no o hf hs hk hu he => exact absurd (HU hu) he
  | obj o hf hs hk hu ho hp ha =>
    rw [hfo] at hf; cases hf
    rw [hk'] at ho
    simp at ho
    subst ho
    obtain ⟨_, e2, e3⟩ := pu_for (by decide) hp
    exact ⟨rfl, e2, by rw [e3]; rfl⟩
  | oth o hf hs hk ho hp ha => simp at hk
theorem down_ok {s s' : Hs} {l : List Int} {last y er : Int} {g f : List Int} (hL : s.L = setl (setc (chn none l ++ [newOb y 0 1]) y 2) last 0 ⟨1, y⟩) (hn : (l ++ [y]).Nodup) (hl : l.getLast? = some last) (hd : DnR s y s' g f er) : er = 0 ∧ g = [] := by
  have hnd : Nd s.L := by rw [hL]; unfold Nd; rw [setl_h, setc_h, List.map_append, chn_h]; exact hn
  have hyl : y ≠ last := fun e => by
    have := (List.nodup_append.1 hn).2.2 last (last_mem hl) y (by simp)
    exact this e.symm
  have hmy : (⟨y, 0, 2, 0, [⟨0, 0⟩], []⟩ : Ob) ∈ s.L := by
    rw [hL]
    refine mem_setl.2 ⟨⟨y, 0, 2, 0, [⟨0, 0⟩], []⟩, mem_setc.2 ⟨newOb y 0 1, by simp, by simp [newOb]⟩, by simp [hyl]⟩
  have h1 := let1_one hnd hmy rfl (by simp)
  have h2 : Dn s.L y (setc s.L y 1) [] [] := ⟨[], by rw [letg_one, h1]; simp; exact Goes.nil _, by rw [letg_one, h1]; rfl⟩
  cases hd with
  | stale hf => exact absurd rfl (fnd_none.1 hf _ hmy)
  | ok o hf hdn hdr =>
    obtain ⟨f2, g2, hf2⟩ := hdn
    obtain ⟨f3, g3, hf3⟩ := h2
    exact ⟨rfl, (g2.same g3).2.1⟩
set_option maxRecDepth 100000 in
set_option maxHeartbeats 8000000 in
/-- The example, by the contracts. -/
theorem awake_by (w0 w : World) (Rp : (Nat → Prop) → World → Value → Hs → Prop) (HC : HeapB w0 Rp) (hB : Below w0.heap.size w0 w) :
    Calls Try.prog 12 #[] w fun e w' => Below w.heap.size w w' ∧ e = .returned (.bool true) := by
  have HCC := hid HC
  have HN := hid (HC.new 4 9 w hB (by simp [Nm]) (by simp [U32]))
  have HB0 := hid hB
  clear HC hB
  go_enter Try.func12, Try.ntmps12
  go_wp2_with fail
  refine HN.out.mono ?_
  rintro e w1 ⟨hb1, hx⟩
  rw [if_pos (by omega)] at hx
  obtain ⟨p, S, rfl, hS, hR⟩ := hx
  obtain ⟨pb, rfl⟩ := HCC.out.ptr hR
  have HB1 := hid hb1
  have HW1 := hid (HB0.out.trans (hb1.mono HB0.out.size))
  have HR1 := hid hR
  have HS1 := hid hS
  clear hb1 hS hR HN
  go_wp2_with fail
  refine (HCC.out.make S w1 _ _ 1 0 HW1.out HR1.out (by simp [Nm]) (by simp [Hn])).mono ?_
  rintro e w2 ⟨hf, s', hh, er, rfl, hmk, hR2⟩
  have hfr0 := frs_new 4 1
  cases hmk with
  | arg h => omega
  | stale h h0 => exact absurd rfl h0
  | inner h h0 => exact absurd rfl h0
  | full h h0 hF => exact absurd hF (hfr0.full (by omega))
  | @ok h h0 ii gg A' hp =>
  obtain ⟨hf1, hii, hgg, hfi⟩ := hfr0.put hp
  obtain ⟨a, ha⟩ : ∃ a, a = hand ii gg := ⟨_, rfl⟩
  rw [← ha] at hR2 ⊢
  have hL2 : addIn ([] : HL) 0 a ++ [newOb a 0 (1 : Int).toNat] = chn none [a] := rfl
  have HB2 := hid (HB1.out.trans (hf.below HB1.out.size HS1.out))
  have HW2 := hid (HB0.out.trans (HB2.out.mono HB0.out.size))
  have HR2 := hid hR2
  have HF2 := hid hf1
  have HS2 := hid (exS_ge (w' := w2) HS1.out HB1.out.size)
  have HL2 := hid hL2
  clear hf hR2 hp h h0 hfr0 ha hii hgg hfi hf1 hL2 HB1 HW1 HR1 HS1
  go_wp2_with fail
  refine (HCC.out.make _ w2 _ _ 1 0 HW2.out HR2.out (by simp [Nm]) (by simp [Hn])).mono ?_
  rintro e w3 ⟨hf, s', hh, er, rfl, hmk, hR3⟩
  cases hmk with
  | arg h => omega
  | stale h h0 => exact absurd rfl h0
  | inner h h0 => exact absurd rfl h0
  | full h h0 hF => exact absurd hF (HF2.out.full (by omega))
  | @ok h h0 ii gg A' hp =>
  obtain ⟨b, hb⟩ : ∃ b, b = hand ii gg := ⟨_, rfl⟩
  rw [← hb] at hR3 ⊢
  have HL3 := hid (show addIn (addIn ([] : HL) 0 a ++ [newOb a 0 (1 : Int).toNat]) 0 b ++ [newOb b 0 (1 : Int).toNat] = chn none [a] ++ [newOb b 0 1] from rfl)
  have hok := HCC.out.ok hR3
  have hnd : ([a] ++ [b]).Nodup := hok.gnd
  have hna : 1 ≤ a ∧ a ≤ 18446744073709551615 := hok.nz a (by simp)
  have hnb : 1 ≤ b ∧ b ≤ 18446744073709551615 := hok.nz b (by simp)
  have HNA := hid (show Hn a by simp only [Hn]; omega)
  have HNB := hid (show Hn b by simp only [Hn]; omega)
  have HND := hid hnd
  have HB3 := hid (HB2.out.trans (hf.below HB2.out.size HS2.out))
  have HW3 := hid (HB0.out.trans (HB3.out.mono HB0.out.size))
  have HR3 := hid hR3
  have HS3 := hid (exS_ge (w' := w3) HS2.out HB2.out.size)
  clear hf hR3 hp h h0 hb hok hnd hna hnb HB2 HW2 HR2 HS2 HF2 HL2
  go_wp2_with fail
  refine (HCC.out.pu _ w3 _ _ a 0 ⟨1, b⟩ HW3.out HR3.out HNA.out (by simp [Nm]) (by simp [Nm]) HNB.out).mono ?_
  rintro e w4 ⟨hf, s4, g, f, er, vg, vf, rfl, htg, htf, hpu, hR4⟩
  obtain ⟨e1, _, _⟩ := put_step (l := [a]) (last := a) HL3.out HND.out rfl rfl hpu
  obtain ⟨rfl, e2, e3⟩ := put_ok (l := [a]) (last := a) HL3.out HND.out rfl rfl hpu
  subst e2 e3
  obtain ⟨ag, cg, hvg, _⟩ := htg.ex
  obtain ⟨af, cf, hvf, _⟩ := htf.ex
  subst hvg hvf
  have HB4 := hid (HB3.out.trans (hf.below HB3.out.size HS3.out))
  have HW4 := hid (HB0.out.trans (HB4.out.mono HB0.out.size))
  have HR4 := hid hR4
  have HS4 := hid (exS_ge (w' := w4) HS3.out HB3.out.size)
  have HL4 := hid e1
  clear hf hR4 hpu e1 htg htf HB3 HW3 HR3 HS3 HL3
  go_wp2_with fail
  refine (HCC.out.dn _ w4 _ s4 b HW4.out HR4.out HNB.out).mono ?_
  rintro e w5 ⟨hf, s5, g, f, er, vg, vf, rfl, htg, htf, hdn, hR5⟩
  obtain ⟨e1, _, _⟩ := down_step (l := [a]) (last := a) HL4.out HND.out rfl hdn
  obtain ⟨rfl, e2⟩ := down_ok (l := [a]) (last := a) HL4.out HND.out rfl hdn
  subst e2
  obtain ⟨ax, cx, hvg, _⟩ := htg.ex
  obtain ⟨ay, cy, hvf, _⟩ := htf.ex
  subst hvg hvf
  have HB5 := hid (HB4.out.trans (hf.below HB4.out.size HS4.out))
  have HW5 := hid (HB0.out.trans (HB5.out.mono HB0.out.size))
  have HR5 := hid hR5
  have HS5 := hid (exS_ge (w' := w5) HS4.out HB4.out.size)
  have HL5 := hid (show s5.L = chn none (a :: [b]) from e1)
  clear hf hR5 hdn e1 htg htf HB4 HW4 HR4 HS4 HL4
  go_wp2_with fail
  refine (HCC.out.dn _ w5 _ s5 a HW5.out HR5.out HNA.out).mono ?_
  rintro e w6 ⟨hf, s6, g6, f6, er, vg, vf, rfl, htg, htf, hdn, hR6⟩
  obtain ⟨rfl, e2, e3, _⟩ := down_chn HL5.out HND.out hdn
  have e2 : g6 = [a, b] := e2
  subst e2 e3
  have HTG := hid htg
  obtain ⟨au, cu, hvg, _⟩ := htg.ex
  obtain ⟨ad, cd, hvf, _⟩ := htf.ex
  rw [show ([a, b] : List Int).length = 2 from rfl] at hvg
  subst hvg hvf
  have HB6 := hid (HB5.out.trans (hf.below HB5.out.size HS5.out))
  clear hf hR6 hdn htg htf HB5 HW5 HR5 HS5 HL5
  go_wp2_with fail
  obtain ⟨w7, hw7⟩ : ∃ x, x = w6.alloc (.cells #[.int .u64 a, .int .u64 b] 34) := ⟨_, rfl⟩
  have hb7 : Below w6.heap.size w6 w7 := by rw [hw7]; exact (Below.refl _ _).alloc (Nat.le_refl _) _
  have hr7 : RowS TU u64v (fun _ => False) w6.heap.size w7 (.slice (some ⟨w6.heap.size, 0, none⟩) 2 2) [a, b] := ⟨by rw [hw7]; exact World.ownsRow_lit w6 #[.int .u64 a, .int .u64 b] 2 (Nat.le_refl _) (by unfold maxLen; omega) rfl, fun _ _ h => h⟩
  rw [← hw7]
  have HB7 := hid (HB6.out.trans (hb7.mono HB6.out.size))
  refine (SameLongs_told w7 _ _ [a, b] (HTG.out.below hb7) hr7.told).mono ?_
  clear hw7 hb7 hr7 HTG HB6
  rintro e w8 ⟨rfl, hb8⟩
  have HB8 := hid (HB7.out.trans (hb8.mono HB7.out.size))
  clear hb8
  go_wp2
  go_ret
  exact ⟨HB8.out, rfl⟩
end Go.Proofs.Ytmkajdfajcodjaa

namespace Go.Proofs.Ytmkajdfajcodjaa
open Go Go.ChangeShapes Go.WideShapes Go.ChangeAt Go.RowKit

theorem HeapC.by_calls {w0 : World} {Rp : (Nat → Prop) → World → Value → Hs → Prop} (HB : HeapB w0 Rp) (HS : SqC w0 Rp) : HeapC w0 Rp :=
  { HB with
    all := fun S w p s m hB hR hm => all_by w0 Rp HB HS S w p s m hB hR hm
    awk := fun w hB => awake_by w0 w Rp HB hB }
end Go.Proofs.Ytmkajdfajcodjaa

namespace Go.Proofs.Ytmkajdfajcodjaa
open Go Go.ChangeShapes Go.WideShapes Go.ChangeAt Go.RowKit

theorem RpH.lt {S : Nat → Prop} {w : World} {v : Value} {s : Hs} (h : RpH S w v s) : ∀ k, S k → k < w.heap.size := by
  obtain ⟨_, _, _, _, _, _, _, _, _, _, _, h5⟩ := h
  exact h5
theorem HUp_any (S : Nat → Prop) (w : World) (v : Value) (s : Hs) (hd : Int) (h : RpH S w v s) (h0 : Hn hd) : Calls Try.prog 24 #[v, .int .u64 hd] w fun e w' => Fr S w w' ∧
    ∃ s' n er, e = .returned (.tuple #[.int .u32 n, .int .i64 er]) ∧ UpR s hd s' n er ∧ RpH (exS S w w') w' v s' := by
  obtain ⟨p, pa, Sa, AA, F, B, rfl, h1, h2, h3, h4, h5⟩ := h
  have hR : RpH S w (.pointer (some ⟨p, 0, none⟩)) s := ⟨p, pa, Sa, AA, F, B, rfl, h1, h2, h3, h4, h5⟩
  cases hw : whl s.L hd with
  | none =>
    refine (Up_none h1 ((whl_none h3.inv).1 hw) h0).mono ?_
    rintro e w' ⟨rfl, rfl⟩
    exact ⟨Fr.refl _ _, s, 0, 2, rfl, .stale hw, hR.ex h5 (Nat.le_refl _)⟩
  | some x =>
    have hxb := (h1.bd (whl_some h3.inv hw).1).1
    by_cases ht : x.count = s.top
    · refine (Up_top h1 h3.inv hw ht).mono ?_
      rintro e w' ⟨rfl, hf⟩
      exact ⟨hf.mono (fun _ e _ => e.elim), s, 0, 4, rfl, .top x hw ht, (hR.below (hf.below (Nat.le_refl _) (fun _ e => e.elim))).ex h5 hf.size⟩
    · refine (Up_ok h1 h3.inv h3.t2 hw ht).mono ?_
      rintro e w' ⟨rfl, hp, hf⟩
      have hu : UpR s hd _ (x.count + 1) 0 := .ok x hw ht
      refine ⟨hf.mono (fun k e hl => h4 k hl (by rw [e]; intro e2; have := congrArg Prod.fst e2; simp [outL] at this; omega)), _, _, 0, rfl, hu, p, pa, Sa, AA, F, B, rfl, hp, h2, hu.hsi h3, exs_lab h4 (fun _ _ => rfl), exs_lt h5 hf.size⟩
theorem HCount_any (S : Nat → Prop) (w : World) (v : Value) (s : Hs) (hd : Int) (h : RpH S w v s) (h0 : Hn hd) : Calls Try.prog 26 #[v, .int .u64 hd] w fun e w' => Below w.heap.size w w' ∧
    e = .returned (.int .u32 (match whl s.L hd with | some o => o.count | none => 0)) := by
  obtain ⟨p, pa, Sa, AA, F, B, rfl, h1, h2, h3, h4, h5⟩ := h
  cases hw : whl s.L hd with
  | none =>
    refine (Count_none h1 ((whl_none h3.inv).1 hw) h0).mono ?_
    rintro e w' ⟨rfl, rfl⟩
    exact ⟨Below.refl _ _, rfl⟩
  | some x =>
    refine (Count_some h1 h3.inv hw).mono ?_
    rintro e w' ⟨rfl, rfl⟩
    exact ⟨Below.refl _ _, rfl⟩
theorem heapB (w0 : World) : HeapB w0 RpH where
  ok := fun h => by obtain ⟨_, _, _, _, _, _, _, _, _, h3, _, _⟩ := h; exact h3.ok
  lt := fun h => h.lt
  keep := fun h hb hs => h.keep hb hs
  ptr := fun h => by obtain ⟨p, _, _, _, _, _, e, _⟩ := h; exact ⟨p, e⟩
  new := fun m t w _ hm ht => HNew_any m t w hm ht
  make := fun S w p s slots outer _ h _ ho => HMake_any S w p s slots outer h ho
  up := fun S w p s h _ hR h0 => HUp_any S w p s h hR h0
  dn := fun S w p s h _ hR h0 => HDown_any S w p s h hR h0
  pu := fun S w p s h slot x _ hR h0 _ hk hx => HPut_any S w p s h slot x hR h0 hk hx
  cn := fun S w p s h _ hR h0 => HCount_any S w p s h hR h0
theorem sqC (w0 : World) : SqC w0 RpH := fun S w v s _ h => by
  obtain ⟨p, pa, Sa, AA, F, B, rfl, h1, h2, h3, h4, h5⟩ := h
  refine (HAll_any w p).mono ?_
  rintro e w' ⟨rfl, hw'⟩
  have hb : Below w.heap.size w w' := by rw [hw']; exact (Below.refl _ _).alloc (Nat.le_refl _) _
  refine ⟨hb, _, _, rfl, trivial, enters_of Try.func60 (by kernel_rfl) rfl, fun n hn => ?_⟩
  rw [h2]
  exact all_tells n w.heap.size p pa hn Sa AA _ w' (by rw [hw']; exact Boxed.new _ _ _) (by rw [World.cell?_of_block (hb.block p h1.lt)]; exact h1.c0) (h1.ar.fr (fp := fun _ => False) (Fr.of_below hb) (fun _ _ e => e))
theorem slC (w0 : World) : SlC w0 RpH := fun S w v s hd _ h hh => by
  obtain ⟨p, pa, Sa, AA, F, B, rfl, h1, h2, h3, h4, h5⟩ := h
  refine (HLinks_any w p hd).mono ?_
  rintro e w' ⟨rfl, hw'⟩
  have hb : Below w.heap.size w w' := by rw [hw']; exact ((Below.refl _ _).alloc (Nat.le_refl _) _).alloc (by simp) _
  refine ⟨hb, _, _, rfl, trivial, enters_of Try.func68 (by kernel_rfl) rfl, fun n _ => ?_⟩
  refine links_tells n _ _ p pa hd hh w' ?_ ?_ (h1.fr (fp := fun _ => False) (Fr.of_below hb) (fun e => e) (fun _ _ e => e) (fun _ _ _ _ _ e => e) (fun _ _ => rfl)) h3.inv
  · rw [hw']; exact (Boxed.new _ _ _).alloc _
  · rw [hw']
    have := Boxed.new (w.alloc (.cells #[.pointer (some ⟨p, 0, none⟩)] 24)) 34 (.int .u64 hd)
    simpa using this
theorem heapC (w0 : World) : HeapC w0 RpH := HeapC.by_calls (heapB w0) (sqC w0)
theorem lnC (w0 : World) : LnC w0 RpH := LnC.by_calls (heapB w0) (slC w0)
end Go.Proofs.Ytmkajdfajcodjaa

namespace Go.Proofs.Ytmkajdfajcodjaa
open Go Go.ChangeShapes Go.WideShapes Go.ChangeAt Go.RowKit Go.Maps

theorem RpH.fr {S fp : Nat → Prop} {w w' : World} {v : Value} {s : Hs} (h : RpH S w v s) (hf : Fr fp w w') (hd : ∀ k, S k → ¬ fp k) : RpH S w' v s :=
  h.keep (fun b hb => hf.block b (h.lt b hb) (hd b hb)) hf.size
theorem RfH.no {S : Nat → Prop} {w w' : World} {v : Value} {s : Hs} (h : RfH S w v s) (hf : Fr (fun _ => False) w w') : RfH S w' v s := h.fr hf (fun _ _ e => e)
theorem RpH.hsi {S : Nat → Prop} {w : World} {v : Value} {s : Hs} (h : RpH S w v s) : HsI s := by
  obtain ⟨_, _, _, _, _, _, _, _, _, h3, _⟩ := h; exact h3
theorem RpH.ptr {S : Nat → Prop} {w : World} {v : Value} {s : Hs} (h : RpH S w v s) : ∃ b, v = .pointer (some ⟨b, 0, none⟩) := by
  obtain ⟨p, _, _, _, _, _, e, _⟩ := h; exact ⟨p, e⟩
theorem RfH.ptr {S : Nat → Prop} {w : World} {v : Value} {s : Hs} (h : RfH S w v s) : ∃ b, v = .pointer (some ⟨b, 0, none⟩) := by
  obtain ⟨p, _, _, _, _, _, e, _⟩ := h; exact ⟨p, e⟩
theorem Told.fr {T : TypeId} {f : Int → Value} {fp : Nat → Prop} {W W' : World} {v : Value} {xs : List Int} (h : Told T f W v xs) (hf : Fr fp W W') (hn : ∀ k, v.ownBlock = some k → ¬ fp k) : Told T f W' v xs := by
  obtain ⟨a, c, h1, h2, h3, h4⟩ := h.ex
  exact ⟨a, c, h1, h2, h3, fun hl => by
    obtain ⟨b, o, h5, h6, h7⟩ := h4 hl
    exact ⟨b, o, h5, Nat.lt_of_lt_of_le h6 hf.size, atl_fr h7 h6 hf (hn b (by rw [h1, h5]; rfl))⟩⟩
theorem HIn.setv {top : Int} {L : HL} (h : HIn top L) (x c : Int) (hc : Nm c) : HIn top (Go.Proofs.Ytmkajdfajcodjaa.setv L x c) := by
  have hm : ∀ {o}, o ∈ Go.Proofs.Ytmkajdfajcodjaa.setv L x c → ∃ p ∈ L, o.h = p.h ∧ o.outer = p.outer ∧ o.count = p.count ∧ o.links = p.links ∧ o.inners = p.inners ∧ (o.value = p.value ∨ o.value = c) := fun {o} ho => by
    obtain ⟨p, hp, rfl⟩ := List.mem_map.1 ho
    by_cases e : p.h = x
    · exact ⟨p, hp, by rw [if_pos e], by rw [if_pos e], by rw [if_pos e], by rw [if_pos e], by rw [if_pos e], .inr (by rw [if_pos e])⟩
    · exact ⟨p, hp, by rw [if_neg e], by rw [if_neg e], by rw [if_neg e], by rw [if_neg e], by rw [if_neg e], .inl (by rw [if_neg e])⟩
  have hb : ∀ {p}, p ∈ L → ∃ o ∈ Go.Proofs.Ytmkajdfajcodjaa.setv L x c, o.h = p.h ∧ o.outer = p.outer ∧ o.inners = p.inners := fun {p} hp =>
    ⟨_, List.mem_map.2 ⟨p, hp, rfl⟩, by split <;> rfl, by split <;> rfl, by split <;> rfl⟩
  have hh : (Go.Proofs.Ytmkajdfajcodjaa.setv L x c).map (·.h) = L.map (·.h) := by
    unfold Go.Proofs.Ytmkajdfajcodjaa.setv
    rw [List.map_map]
    exact List.map_congr_left fun o _ => by simp only [Function.comp_apply]; split <;> rfl
  refine ⟨by unfold Nd; rw [hh]; exact h.nd, ?_, ?_, ?_, ?_, ?_, ?_, ?_, ?_⟩
  · intro o ho
    obtain ⟨p, hp, e, _⟩ := hm ho
    rw [e]; exact h.nz p hp
  · intro o ho h0
    obtain ⟨p, hp, h1, h2, _⟩ := hm ho
    obtain ⟨y, hy, h3, h4, h5⟩ := h.out p hp (by rw [← h2]; exact h0)
    obtain ⟨z, hz, h6, h7, h8⟩ := hb hy
    exact ⟨z, hz, by rw [h6, h3, h2], by rw [h7, h4], by rw [h8, h1]; exact h5⟩
  · intro o ho hd hmm
    obtain ⟨p, hp, h1, h2, _, _, h3, _⟩ := hm ho
    obtain ⟨y, hy, h4, h5⟩ := h.inn p hp hd (by rw [← h3]; exact hmm)
    obtain ⟨z, hz, h6, h7, _⟩ := hb hy
    exact ⟨z, hz, by rw [h6, h4], by rw [h7, h5, h1]⟩
  · intro o ho
    obtain ⟨p, hp, _, _, _, _, h3, _⟩ := hm ho
    rw [h3]; exact h.idp p hp
  · intro o ho
    obtain ⟨p, hp, _, _, h3, _⟩ := hm ho
    rw [h3]; exact h.cnt p hp
  · intro o ho
    obtain ⟨p, hp, _, _, _, _, _, h3 | h3⟩ := hm ho
    · rw [h3]; exact h.val p hp
    · rw [h3]; exact hc
  · intro o ho
    obtain ⟨p, hp, _, h3, _⟩ := hm ho
    rw [h3]; exact h.oub p hp
  · intro o ho
    obtain ⟨p, hp, _, _, _, h3, _⟩ := hm ho
    rw [h3]; exact h.lnk p hp
theorem setv_h (L : HL) (x c : Int) : (setv L x c).map (·.h) = L.map (·.h) := by
  unfold setv
  rw [List.map_map]
  exact List.map_congr_left fun o _ => by simp only [Function.comp_apply]; split <;> rfl
theorem HsI.setv {s : Hs} (h : HsI s) (x c : Int) (hc : Nm c) : HsI { s with L := Go.Proofs.Ytmkajdfajcodjaa.setv s.L x c } :=
  ⟨h.ok.same (setv_h _ _ _), h.inv.setv x c hc, h.past, h.t1, h.t2⟩
/-- A value is laid. -/
inductive StR (s : Hs) (hd n : Int) : Hs → Int → Prop
  | stale (hf : fnd s.L hd = none) : StR s hd n s 2
  | ok (o : Ob) (hf : fnd s.L hd = some o) : StR s hd n { s with L := setv s.L hd n } 0
theorem HStore_any (S : Nat → Prop) (w : World) (v : Value) (s : Hs) (hd n : Int) (h : RpH S w v s) (h0 : Hn hd) (hn : Nm n) : Calls Try.prog 32 #[v, .int .u64 hd, .int .i64 n] w fun e w' => Fr S w w' ∧
    ∃ s' er, e = .returned (.int .i64 er) ∧ StR s hd n s' er ∧ RpH (exS S w w') w' v s' := by
  obtain ⟨p, pa, Sa, AA, F, B, rfl, h1, h2, h3, h4, h5⟩ := h
  have hR : RpH S w (.pointer (some ⟨p, 0, none⟩)) s := ⟨p, pa, Sa, AA, F, B, rfl, h1, h2, h3, h4, h5⟩
  cases hf : fnd s.L hd with
  | none =>
    refine (Store_none h1 hf h0).mono ?_
    rintro e w' ⟨rfl, rfl⟩
    exact ⟨Fr.refl _ _, s, 2, rfl, .stale hf, hR.ex h5 (Nat.le_refl _)⟩
  | some o =>
    obtain ⟨ho, he⟩ := fnd_some hf
    have hz := (h3.inv.nz o ho).1
    have hst := Store_some h1 h3.inv.nd ho n
    rw [he] at hst hz
    refine hst.mono ?_
    rintro e w' ⟨rfl, k1, k2⟩
    exact ⟨k2.mono (fun k e hk => h4 k hk (by rw [e]; intro e2; have := congrArg Prod.fst e2; simp [outL] at this; omega)), _, 0, rfl, .ok o hf, p, pa, Sa, AA, F, B, rfl, k1, h2, h3.setv hd n hn,
      exs_lab h4 (fun _ _ => rfl), exs_lt h5 k2.size⟩
/-- The twin's Find: where the object lies. -/
theorem RfFind_any (S : Nat → Prop) (w : World) (v : Value) (s : Hs) (hd : Int) (h : RfH S w v s) : Calls Try.prog 43 #[v, .int .u64 hd] w fun e w' => w = w' ∧
    ((fnd s.L hd = none ∧ e = .returned (.pointer none)) ∨
      (∃ o b sv iv, fnd s.L hd = some o ∧ e = .returned (.pointer (some ⟨b, 0, none⟩)) ∧ S b ∧ w.heap[b]? = some (.cells #[.int .u64 o.h, .int .u64 o.outer, .int .u32 o.count, .int .i64 o.value, sv, iv] 101 (0, 0)) ∧
        w.ownsRow 0 67 2 sv o.links.length (lkv o.links) ∧ ∀ n, Nm n → RfH S (w.setCell ⟨b, 3, none⟩ (.int .i64 n)) v { s with L := setv s.L hd n })) := by
  obtain ⟨p, pa, Sa, F, B, lv, rfl, h1, h3, h4, h5⟩ := h
  have hl := h3.len
  cases hf : fnd s.L hd with
  | none =>
    refine (RFind_none h1 (by omega) hf).mono ?_
    rintro e w' ⟨rfl, rfl⟩
    exact ⟨rfl, .inl ⟨rfl, rfl⟩⟩
  | some o =>
    obtain ⟨ho, he⟩ := fnd_some hf
    have hz := (h3.inv.nz o ho).1
    obtain ⟨sv, iv, hob⟩ := h1.ob o ho
    refine (RFind_some h1 (by omega) hf).mono ?_
    rintro e w' ⟨rfl, rfl⟩
    refine ⟨rfl, .inr ⟨o, B hd, sv, iv, rfl, rfl, ?_, ?_, hob.hs, fun n hn => ?_⟩⟩
    · rw [← he]; exact h4 _ hob.lt (lab_out hob.fb (by omega))
    · rw [← he]; exact hob.hb
    · rw [← he]
      exact ⟨p, pa, Sa, F, B, lv, rfl, h1.setv h3.inv.nd ho hz n, h3.setv o.h n hn, fun k hk hF => h4 k (by simpa using hk) hF, fun k hk => by simpa using h5 k hk⟩
end Go.Proofs.Ytmkajdfajcodjaa

namespace Go.Proofs.Ytmkajdfajcodjaa
open Go Go.ChangeShapes Go.WideShapes Go.ChangeAt Go.RowKit Go.Maps

/-- A pair at a block: the heap, the twin, the handles that were given. -/
structure HsP (w0 : World) (pp : Nat) (vT vX : Value) (S1 S2 : Nat → Prop) (s1 s2 : Hs) (G : List Int) (gv : Value) (w : World) : Prop where
  hp : w.heap[pp]? = some (.cells #[vT, vX, gv] 46 (0, 0))
  t : RpH S1 w vT s1
  x : RfH S2 w vX s2
  g : RowS TU u64v (fun b => S1 b ∨ S2 b ∨ b = pp) w0.heap.size w gv G
  d12 : ∀ b, S1 b → ¬ S2 b
  dp1 : ¬ S1 pp
  dp2 : ¬ S2 pp
  b1 : ∀ b, S1 b → w0.heap.size ≤ b
  b2 : ∀ b, S2 b → w0.heap.size ≤ b
  bp : w0.heap.size ≤ pp
  below : Below w0.heap.size w0 w
  gu : ∀ x ∈ G, Hn x
section
variable {w0 w w' : World} {pp : Nat} {vT vX gv : Value} {S1 S2 : Nat → Prop} {s1 s2 s1' s2' : Hs} {G : List Int}
theorem HsP.lt (h : HsP w0 pp vT vX S1 S2 s1 s2 G gv w) : pp < w.heap.size := (Array.getElem?_eq_some_iff.1 h.hp).1
theorem HsP.c0 (h : HsP w0 pp vT vX S1 S2 s1 s2 G gv w) : w.cell? ⟨pp, 0, none⟩ = some vT := by rw [cell_of_row w pp 0 _ _ _ h.hp]; rfl
theorem HsP.c1 (h : HsP w0 pp vT vX S1 S2 s1 s2 G gv w) : w.cell? ⟨pp, 1, none⟩ = some vX := by rw [cell_of_row w pp 1 _ _ _ h.hp]; rfl
theorem HsP.c2 (h : HsP w0 pp vT vX S1 S2 s1 s2 G gv w) : w.cell? ⟨pp, 2, none⟩ = some gv := by rw [cell_of_row w pp 2 _ _ _ h.hp]; rfl
theorem HsP.fz (h : HsP w0 pp vT vX S1 S2 s1 s2 G gv w) (k : Nat) : w.frozen? ⟨pp, k, none⟩ = false := frozen_of_row w pp k _ _ h.hp
theorem HsP.no (h : HsP w0 pp vT vX S1 S2 s1 s2 G gv w) (hf : Fr (fun _ => False) w w') : HsP w0 pp vT vX S1 S2 s1 s2 G gv w' :=
  ⟨by rw [hf.block pp h.lt (fun e => e)]; exact h.hp, h.t.no hf, h.x.no hf, h.g.side hf (fun _ _ e => e), h.d12, h.dp1, h.dp2, h.b1, h.b2, h.bp, h.below.trans (hf.below h.below.size (fun _ e => e.elim)), h.gu⟩
/-- The table has turned. -/
theorem HsP.tab (h : HsP w0 pp vT vX S1 S2 s1 s2 G gv w) (hf : Fr S1 w w') (hR : RpH (exS S1 w w') w' vT s1') : HsP w0 pp vT vX (exS S1 w w') S2 s1' s2 G gv w' := by
  have hlp := h.lt
  refine ⟨by rw [hf.block pp h.lt h.dp1]; exact h.hp, hR, h.x.fr hf (fun k h1 h2 => h.d12 k h2 h1), ⟨hf.owns h.g.own (fun k hk e => h.g.off k hk (.inl e)), fun k hk e => ?_⟩, fun k hk hs => ?_, fun e => ?_, h.dp2, exS_ge h.b1 h.below.size, h.b2, h.bp, h.below.trans (hf.below h.below.size h.b1), h.gu⟩
  · have := (h.g.own.lt k hk).2
    rcases e with e | e | e
    · rcases e with e | e
      · exact h.g.off k hk (.inl e)
      · omega
    · exact h.g.off k hk (.inr (.inl e))
    · exact h.g.off k hk (.inr (.inr e))
  · rcases hk with hk | hk
    · exact h.d12 k hk hs
    · have := h.x.lt k hs; omega
  · rcases e with e | e
    · exact h.dp1 e
    · omega
/-- The twin has turned. -/
theorem HsP.twin (h : HsP w0 pp vT vX S1 S2 s1 s2 G gv w) (hf : Fr S2 w w') (hR : RfH (exS S2 w w') w' vX s2') : HsP w0 pp vT vX S1 (exS S2 w w') s1 s2' G gv w' := by
  have hlp := h.lt
  refine ⟨by rw [hf.block pp h.lt h.dp2]; exact h.hp, h.t.fr hf (fun k h1 h2 => h.d12 k h1 h2), hR, ⟨hf.owns h.g.own (fun k hk e => h.g.off k hk (.inr (.inl e))), fun k hk e => ?_⟩, fun k hk hs => ?_, h.dp1, fun e => ?_, h.b1, exS_ge h.b2 h.below.size, h.bp, h.below.trans (hf.below h.below.size h.b2), h.gu⟩
  · have := (h.g.own.lt k hk).2
    rcases e with e | e | e
    · exact h.g.off k hk (.inl e)
    · rcases e with e | e
      · exact h.g.off k hk (.inr (.inl e))
      · omega
    · exact h.g.off k hk (.inr (.inr e))
  · rcases hs with hs | hs
    · exact h.d12 k hk hs
    · have := h.t.lt k hk; omega
  · rcases e with e | e
    · exact h.dp2 e
    · omega
/-- The twin has turned where it lies. -/
theorem HsP.twin0 (h : HsP w0 pp vT vX S1 S2 s1 s2 G gv w) (hf : Fr S2 w w') (hR : RfH S2 w' vX s2') : HsP w0 pp vT vX S1 S2 s1 s2' G gv w' :=
  ⟨by rw [hf.block pp h.lt h.dp2]; exact h.hp, h.t.fr hf (fun k h1 h2 => h.d12 k h1 h2), hR, ⟨hf.owns h.g.own (fun k hk e => h.g.off k hk (.inr (.inl e))), h.g.off⟩, h.d12, h.dp1, h.dp2, h.b1, h.b2, h.bp, h.below.trans (hf.below h.below.size h.b2), h.gu⟩
/-- One more was given. -/
theorem HsP.give {gv' : Value} {o : Obj} {x : Int} {n : Nat} {wz : World} (h : HsP w0 pp vT vX S1 S2 s1 s2 G gv w) (hx : Hn x) (hown : wz.ownsRow w0.heap.size TU 1 gv' n (G.map u64v ++ [u64v x])) (hg : (w.alloc o).grownBy wz gv.ownBlock) (hat : gv'.ownBlock = gv.ownBlock ∨ gv'.ownBlock = some (w.alloc o).heap.size) :
    HsP w0 pp vT vX S1 S2 s1 s2 (G ++ [x]) gv' (wz.setCell ⟨pp, 2, none⟩ gv') := by
  have hlp := h.lt
  have hSl : ∀ b, (S1 b ∨ S2 b ∨ b = pp) → b < w.heap.size := fun b hb => by
    rcases hb with e | e | e
    · exact h.t.lt b e
    · exact h.x.lt b e
    · omega
  obtain ⟨h1, h2⟩ := h.g.app hSl hown hg hat
  have hf : Fr (fun j => gv.ownBlock = some j ∨ j = pp) w (wz.setCell ⟨pp, 2, none⟩ gv') := (h2.mono (fun _ e _ => .inl e)).setCell _ _ (fun _ => .inr rfl)
  have hpz : wz.heap[pp]? = some (.cells #[vT, vX, gv] 46 (0, 0)) := by
    rw [h2.block pp h.lt (fun e => h.g.off pp e (.inr (.inr rfl)))]; exact h.hp
  refine ⟨by rw [heap_setCell_same _ _ _ _ _ _ hpz]; rfl, h.t.fr hf (fun k hk e => ?_), h.x.fr hf (fun k hk e => ?_), ⟨ownsRow_setCell_other h1.own (fun e => h1.off pp e (.inr (.inr rfl))) _, h1.off⟩, h.d12, h.dp1, h.dp2, h.b1, h.b2, h.bp, h.below.trans (hf.below h.below.size (fun k e => ?_)), fun y hy => ?_⟩
  · rcases e with e | e
    · exact h.g.off k e (.inl hk)
    · exact h.dp1 (e ▸ hk)
  · rcases e with e | e
    · exact h.g.off k e (.inr (.inl hk))
    · exact h.dp2 (e ▸ hk)
  · rcases e with e | e
    · exact (h.g.own.lt k e).1
    · exact e ▸ h.bp
  · rcases List.mem_append.1 hy with hy | hy
    · exact h.gu y hy
    · simp at hy; subst hy; exact hx
end
theorem hn0 : Hn 0 := by unfold Hn; omega
set_option maxRecDepth 100000 in
theorem given_any {w0 w : World} {pp : Nat} {vT vX gv : Value} {S1 S2 : Nat → Prop} {s1 s2 : Hs} {G : List Int} (h : HsP w0 pp vT vX S1 S2 s1 s2 G gv w) (hg : G.length ≤ 1000) {a : Int} (ha : Nm a) :
    Calls Try.prog 36 #[.pointer (some ⟨pp, 0, none⟩), .int .i64 a] w fun e w' => ∃ hd, Hn hd ∧ e = .returned (.int .u64 hd) ∧ Fr (fun _ => False) w w' := by
  obtain ⟨ga, gk, hgv, hgk1, hgk2, hgf⟩ := h.g.form
  subst hgv
  have c2 := h.c2
  by_cases hl : 0 < G.length
  · obtain ⟨j, hj⟩ : ∃ j : Nat, a % (G.length : Int) = j := ⟨(a % (G.length : Int)).toNat, by have := Int.emod_nonneg a (show (G.length : Int) ≠ 0 by omega); omega⟩
    have hjl : j < G.length := by have := Int.emod_lt_of_pos a (show (0 : Int) < G.length by omega); omega
    obtain ⟨g, hgg, _⟩ := hgf hl
    subst hgg
    have hcell := h.g.cell rfl (List.getElem?_eq_getElem hjl)
    have hu := h.gu _ (List.getElem_mem hjl)
    generalize G[j] = hd at hcell hu
    have HU := hid hu
    have hpk := Pick_any a G.length w.drew ha (by omega) (by omega)
    rw [hj] at hpk
    have HPK := hid hpk
    have hl0 : ((G.length : Int) == 0) = false := by rw [beq_eq_false_iff_ne]; omega
    clear hpk hj h hu ha hgf hl hgk1 hgk2
    generalize G.length = n at *
    go_enter Try.func36, Try.ntmps36
    go_upto_region 3 with fail
    refine C.wp_region_mix [0, 0, 0, 1, 0, 0, 0, 0, 1, 0, 2, 0, 1, 0] (fun W => W.cell? ⟨pp, 2, none⟩ = some (.slice (some ⟨g, 0, none⟩) n gk) ∧ W.cell? ⟨g, j, none⟩ = some (.int .u64 hd)) (by kernel_rfl) (by kernel_rfl) ⟨c2, hcell⟩ ?_
    repeat (first
      | (refine' C.wpMix_value _ rfl rfl _ _; rotate_left; (solve | (intro W; go_simp) | (intro W; go_simp; with_reducible rfl)); simp only [Act.put, List.setIfInBounds_toArray, List.set_cons_zero, List.set_cons_succ])
      | (refine' C.wpMix_read _ rfl rfl _ _; rotate_left; (solve | (rintro W ⟨h1, h2⟩; go_simp) | (rintro W ⟨h1, h2⟩; go_simp; with_reducible rfl)); simp only [Act.put, List.setIfInBounds_toArray, List.set_cons_zero, List.set_cons_succ]))
    refine C.wpMix_call 16 #[.int .i64 a, .int .i64 n] (by decide) rfl ?nrun1 ?ncall1
    case' ncall1 =>
      refine HPK.out.mono ?_
      rintro e w' ⟨rfl, rfl⟩
      refine ⟨_, rfl, fun _ => ⟨c2, hcell⟩, ?_⟩
      simp only [Act.put, List.setIfInBounds_toArray, List.set_cons_zero, List.set_cons_succ]
    case' nrun1 => go_simp
    repeat (first
      | (refine' C.wpMix_value _ rfl rfl _ _; rotate_left; (solve | (intro W; go_simp) | (intro W; go_simp; with_reducible rfl)); simp only [Act.put, List.setIfInBounds_toArray, List.set_cons_zero, List.set_cons_succ])
      | (refine' C.wpMix_read _ rfl rfl _ _; rotate_left; (solve | (rintro W ⟨h1, h2⟩; go_simp) | (rintro W ⟨h1, h2⟩; go_simp; with_reducible rfl)); simp only [Act.put, List.setIfInBounds_toArray, List.set_cons_zero, List.set_cons_succ]))
    refine C.wpMix_end ?_
    go_wp2
    go_ret
    exact ⟨hd, HU.out, rfl, (Fr.refl _ _).drew⟩
  · have hz : G.length = 0 := by omega
    rw [hz] at c2
    clear h hgf hl
    go_enter Try.func36, Try.ntmps36
    go_wp2
    go_ret
    exact ⟨0, hn0, rfl, Fr.refl _ _⟩
end Go.Proofs.Ytmkajdfajcodjaa

namespace Go.Proofs.Ytmkajdfajcodjaa
open Go Go.ChangeShapes Go.WideShapes Go.ChangeAt Go.RowKit Go.Maps

abbrev TK : TypeId := 67
def LinkPost (w : World) (e : Ending) (w' : World) : Prop := ∃ y : Lk, (Nm y.kind ∧ Hn y.h) ∧ e = .returned (.agg #[.int .i64 y.kind, .int .u64 y.h]) ∧ Fr (fun _ => False) w w'
set_option maxRecDepth 100000 in
theorem sizeK (k h : Int) : (Try.prog.info? TK).map (·.size) = some (#[Value.int .i64 k, .int .u64 h] : Array Value).size := by
  show _ = some 2
  kernel_rfl
theorem load_link {W : World} {g : Nat} {k h : Int} (hb : W.heap[g]? = some (.cells #[.int .i64 k, .int .u64 h] TK (0, 0))) : (loadVar TK ⟨g, 0, none⟩).run Try.prog W = .ok (.agg #[.int .i64 k, .int .u64 h]) W :=
  run_loadVar_row (P := Try.prog) _ _ _ TK _ (0, 0) _ hb Try.underlying67 rfl (sizeK k h)
theorem link_two {W : World} {g : Nat} {k h k' h' : Int} (hb : W.heap[g]? = some (.cells #[.int .i64 k, .int .u64 h] TK (0, 0))) : ((W.setCell ⟨g, 0, none⟩ (.int .i64 k')).setCell ⟨g, 1, none⟩ (.int .u64 h')).heap[g]? = some (.cells #[.int .i64 k', .int .u64 h'] TK (0, 0)) := by
  rw [heap_setCell_same _ _ _ _ _ _ (heap_setCell_same _ _ _ _ _ _ hb)]; rfl
theorem link_ret {w W : World} {a : Act} {g : Nat} {k h k' h' : Int} (hf : Fr (fun _ => False) w W) (hg : w.heap.size ≤ g) (hb : W.heap[g]? = some (.cells #[.int .i64 k, .int .u64 h] TK (0, 0))) (h2 : a.tmps.getD 4 undef = .pointer (some ⟨g, 0, none⟩)) (hd : a.defers = []) (hk : Nm k') (hh : Hn h') :
    bodyPost Try.prog Try.f40 (LinkPost w) .ret a ((W.setCell ⟨g, 0, none⟩ (.int .i64 k')).setCell ⟨g, 1, none⟩ (.int .u64 h')) :=
  cells_ret (r := 4) (T := TK) (g := g) rfl h2 hd (load_link (link_two hb)) ⟨⟨k', h'⟩, ⟨hk, hh⟩, rfl, (hf.setCell _ _ (fun e => by simp only at e; omega)).setCell _ _ (fun e => by simp only at e; omega)⟩
set_option maxRecDepth 100000 in
set_option maxHeartbeats 2000000 in
theorem link_any {w0 w : World} {pp : Nat} {vT vX gv : Value} {S1 S2 : Nat → Prop} {s1 s2 : Hs} {G : List Int} (h : HsP w0 pp vT vX S1 S2 s1 s2 G gv w) (hg : G.length ≤ 1000) {x : HAct} (hx : HActOk x) :
    Calls Try.prog 40 #[.pointer (some ⟨pp, 0, none⟩), .agg (acc x).toArray] w (LinkPost w) := by
  obtain ⟨xk, xa, xh, xx, xr⟩ := x
  obtain ⟨hk, ha, hh, hxx, hr⟩ := hx
  simp only at hk ha hh hxx hr
  obtain ⟨wb, hwb⟩ : ∃ wb, wb = w.heap.size := ⟨_, rfl⟩
  obtain ⟨w1, hw1⟩ : ∃ w1, w1 = w.alloc (.cells (acc ⟨xk, xa, xh, xx, xr⟩).toArray 36) := ⟨_, rfl⟩
  obtain ⟨w2, hw2⟩ : ∃ w2, w2 = w1.alloc (.cells #[.int .i64 0, .int .u64 0] TK) := ⟨_, rfl⟩
  have hf1 : Fr (fun _ => False) w w1 := by rw [hw1]; exact (Fr.refl _ _).alloc _
  have hf2 : Fr (fun _ => False) w1 w2 := by rw [hw2]; exact (Fr.refl _ _).alloc _
  have hf12 := hf1.trans hf2 (fun _ e _ => e)
  have hbx1 : w1.heap[wb]? = some (.cells (acc ⟨xk, xa, xh, xx, xr⟩).toArray 36 (0, 0)) := by rw [hw1, hwb]; exact heap_alloc_new _ _
  have hbx : w2.heap[wb]? = some (.cells (acc ⟨xk, xa, xh, xx, xr⟩).toArray 36 (0, 0)) := by rw [hf2.block wb (Array.getElem?_eq_some_iff.1 hbx1).1 (fun e => e)]; exact hbx1
  have hs1 : w1.heap.size = wb + 1 := by rw [hw1, hwb]; simp
  obtain ⟨wr, hwr⟩ : ∃ wr, wr = wb + 1 := ⟨_, rfl⟩
  have hrx : w2.heap[wr]? = some (.cells #[.int .i64 0, .int .u64 0] TK (0, 0)) := by rw [hw2, hwr, ← hs1]; exact heap_alloc_new _ _
  have hb1 : w2.cell? ⟨wb, 1, none⟩ = some (.int .i64 xa) := by rw [cell_of_row w2 wb 1 _ _ _ hbx]; rfl
  have hb3 : w2.cell? ⟨wb, 3, none⟩ = some (.int .i64 xx) := by rw [cell_of_row w2 wb 3 _ _ _ hbx]; rfl
  have hb4 : w2.cell? ⟨wb, 4, none⟩ = some (.int .u64 xr) := by rw [cell_of_row w2 wb 4 _ _ _ hbx]; rfl
  have hr0 : w2.cell? ⟨wr, 0, none⟩ = some (.int .i64 0) := by rw [cell_of_row w2 wr 0 _ _ _ hrx]; rfl
  have hr1 : w2.cell? ⟨wr, 1, none⟩ = some (.int .u64 0) := by rw [cell_of_row w2 wr 1 _ _ _ hrx]; rfl
  have hz0 : w2.frozen? ⟨wr, 0, none⟩ = false := frozen_of_row w2 wr 0 _ _ hrx
  have hz1 : w2.frozen? ⟨wr, 1, none⟩ = false := frozen_of_row w2 wr 1 _ _ hrx
  have HW1 := hid hw1
  have HW2 := hid hw2
  have HWB := hid hwb
  have HWR := hid hwr
  have HF := hid hf12
  have hwg : w.heap.size ≤ wr := by omega
  have HWG := hid hwg
  clear hwg
  have HRX := hid hrx
  have HPK := hid (Pick_any xx 5 w2 hxx (by decide) (by decide))
  have HP := hid (h.no hf12)
  have HG := hid hg
  have HXX := hid hxx
  have HA := hid ha
  have HR := hid hr
  clear hs1 hw1 hw2 hf1 hf2 hf12 hbx1 hbx hwb hwr hrx h hg hxx ha hr hk hh
  have h0 := Int.emod_nonneg xx (show (5 : Int) ≠ 0 by omega)
  have h5 := Int.emod_lt_of_pos xx (show (0 : Int) < 5 by omega)
  have hq : xx % 5 = 0 ∨ xx % 5 = 1 ∨ xx % 5 = 2 ∨ (∃ q, xx % 5 = q ∧ (q == 0) = false ∧ (q == 1) = false ∧ (q == 2) = false) := by
    by_cases e0 : xx % 5 = 0
    · exact .inl e0
    · by_cases e1 : xx % 5 = 1
      · exact .inr (.inl e1)
      · by_cases e2 : xx % 5 = 2
        · exact .inr (.inr (.inl e2))
        · exact .inr (.inr (.inr ⟨_, rfl, by simpa using e0, by simpa using e1, by simpa using e2⟩))
  clear h0 h5
  rcases hq with q | q | q | ⟨q, q1, q2, q3, q4⟩
  · rw [q] at HPK
    go_enter Try.func40, Try.ntmps40
    go_upto_region 1 with fail
    rw [← HW1.out, ← HWB.out]
    rw [← HWR.out, show w1.alloc (.cells #[.int .i64 0, .int .u64 0] 67) = w2 from HW2.out.symm]
    go_wp2_with (refine HPK.out.mono ?_; rintro e w' ⟨rfl, rfl⟩)
    exact link_ret HF.out HWG.out HRX.out rfl rfl (by unfold Nm; omega) hn0
  · rw [q] at HPK
    go_enter Try.func40, Try.ntmps40
    go_upto_region 1 with fail
    rw [← HW1.out, ← HWB.out]
    rw [← HWR.out, show w1.alloc (.cells #[.int .i64 0, .int .u64 0] 67) = w2 from HW2.out.symm]
    go_wp2_with (refine HPK.out.mono ?_; rintro e w' ⟨rfl, rfl⟩)
    exact link_ret HF.out HWG.out HRX.out rfl rfl (by unfold Nm; omega) (by unfold Hn; rw [IntKind.wrap_u64]; omega)
  · rw [q] at HPK
    go_enter Try.func40, Try.ntmps40
    go_upto_region 1 with fail
    rw [← HW1.out, ← HWB.out]
    rw [← HWR.out, show w1.alloc (.cells #[.int .i64 0, .int .u64 0] 67) = w2 from HW2.out.symm]
    go_wp2_with (refine HPK.out.mono ?_; rintro e w' ⟨rfl, rfl⟩)
    exact link_ret HF.out HWG.out HRX.out rfl rfl HA.out HR.out
  · rw [q1] at HPK
    have hxb : Nm (xx.tdiv 5) := by
      have h1 := HXX.out
      have h2 := Int.tmod_add_mul_tdiv xx 5
      have h3 := tmod_pick xx 5 (by omega)
      unfold Nm at h1 ⊢
      omega
    have hdv : IntKind.i64.wrap (xx.tdiv 5) = xx.tdiv 5 := IntWalk.i64_in _ ⟨by have := hxb.1; omega, by have := hxb.2; omega⟩
    have HGV := hid (given_any HP.out HG.out hxb)
    go_enter Try.func40, Try.ntmps40
    go_upto_region 1 with fail
    rw [← HW1.out, ← HWB.out]
    rw [← HWR.out, show w1.alloc (.cells #[.int .i64 0, .int .u64 0] 67) = w2 from HW2.out.symm]
    go_wp2_with (go_at_call 16; refine HPK.out.mono ?_; rintro e w' ⟨rfl, rfl⟩)
    refine HGV.out.mono ?_
    rintro e w3 ⟨hd, hu, rfl, hf3⟩
    have hrx3 : w3.heap[wr]? = some (.cells #[.int .i64 0, .int .u64 0] TK (0, 0)) := by rw [hf3.block wr (Array.getElem?_eq_some_iff.1 HRX.out).1 (fun e => e)]; exact HRX.out
    have HRX3 := hid hrx3
    have hs0 : w3.cell? ⟨wr, 0, none⟩ = some (.int .i64 0) := by rw [cell_of_row w3 wr 0 _ _ _ hrx3]; rfl
    have hs1 : w3.cell? ⟨wr, 1, none⟩ = some (.int .u64 0) := by rw [cell_of_row w3 wr 1 _ _ _ hrx3]; rfl
    have ht0 : w3.frozen? ⟨wr, 0, none⟩ = false := frozen_of_row w3 wr 0 _ _ hrx3
    have ht1 : w3.frozen? ⟨wr, 1, none⟩ = false := frozen_of_row w3 wr 1 _ _ hrx3
    have HF3 := hid (HF.out.trans hf3 (fun _ e _ => e))
    have HU := hid hu
    clear hrx3 hf3 hu hb1 hb3 hb4 hr0 hr1 hz0 hz1
    go_wp2
    exact link_ret HF3.out HWG.out HRX3.out rfl rfl (by unfold Nm; omega) HU.out
end Go.Proofs.Ytmkajdfajcodjaa

namespace Go.Proofs.Ytmkajdfajcodjaa
open Go Go.ChangeShapes Go.WideShapes Go.ChangeAt Go.RowKit Go.Maps

theorem and_one_i64 (n : Int) : bits .and .i64 n 1 = n % 2 := by
  have h1 : (BitVec.ofInt 64 1).toNat = 2 ^ 1 - 1 := by decide
  have key : (BitVec.ofInt 64 n &&& BitVec.ofInt 64 1).toNat = (n % ((2 ^ 64 : Nat) : Int)).toNat % 2 ^ 1 := by
    rw [BitVec.toNat_and, BitVec.toNat_ofInt, h1, Nat.and_two_pow_sub_one_eq_mod]
  show IntKind.i64.wrap ((BitVec.ofInt 64 n &&& BitVec.ofInt 64 1).toNat : Nat) = n % 2
  rw [key, IntKind.wrap_i64]
  omega
theorem exec_upto {o : Oper} {f : Operand → Value} {W : World} {p h : Operand} {b oo n cap hi : Nat} (ho : o.op = .slice 43 p none (some h) none) (hp : f p = .slice (some ⟨b, oo, none⟩) n cap) (hh : f h = .int .i64 hi) (h2 : hi ≤ cap) :
    (execOp f o).run Try.prog W = .ok (.value (.slice (some ⟨b, oo, none⟩) hi cap)) W := by
  unfold execOp
  simp only [ho, hp]
  simp only [Option.map, hh]
  go_simp
theorem atl_row {W : World} {b : Nat} {cs : Array Value} {T : TypeId} {l : List Value} (h : W.heap[b]? = some (.cells cs T (0, 0))) (hl : l <+: cs.toList) : AtL W b 0 l := fun j u hu => by
  obtain ⟨r, hr⟩ := hl
  rw [Nat.zero_add, cell_of_row W b j _ _ _ h, ← Array.getElem?_toList, ← hr, List.getElem?_append_left (List.getElem?_eq_some_iff.1 hu).1]
  exact hu
theorem DrR.most {A A' : Ar} {l : List Int} (h : DrR A l A') : A'.most = A.most := by
  induction h with
  | nil => rfl
  | cons hf hr ih => exact ih.trans (by unfold dropAt; first | rfl | (split <;> rfl))
theorem Put.most {A A' : Ar} {x : Int} {i g : Nat} (h : Put A x i g A') : A'.most = A.most := by cases h <;> rfl
theorem MkR.most {s s' : Hs} {a o h e : Int} {k : Nat} (hr : MkR s a o s' h e) (hk : s.A.most = k) : s'.A.most = k := by
  cases hr with
  | ok _ _ hp => exact hp.most.trans hk
  | _ => exact hk
theorem UpR.most {s s' : Hs} {h n e : Int} {k : Nat} (hr : UpR s h s' n e) (hk : s.A.most = k) : s'.A.most = k := by cases hr <;> exact hk
theorem DnR.most {s s' : Hs} {h e : Int} {g f : List Int} {k : Nat} (hr : DnR s h s' g f e) (hk : s.A.most = k) : s'.A.most = k := by
  cases hr with
  | stale => exact hk
  | ok o hf hd ha => exact ha.most.trans hk
theorem PuR.most {s s' : Hs} {h a e : Int} {x : Lk} {g f : List Int} {k : Nat} (hr : PuR s h a x s' g f e) (hk : s.A.most = k) : s'.A.most = k := by
  cases hr with
  | obj o hf hs hk2 hu ho hp ha => exact ha.most.trans hk
  | oth o hf hs hk2 ho hp ha => exact ha.most.trans hk
  | _ => exact hk
theorem RmR.most {s s' : Hs} {l : List Int} {e : Int} {g f : List Int} {k : Nat} (hr : RmR s l s' g f e) (hk : s.A.most = k) : s'.A.most = k := by
  cases hr with
  | ok hn ha hg hd => exact hd.most.trans hk
  | _ => exact hk
theorem StR.most {s s' : Hs} {h n e : Int} {k : Nat} (hr : StR s h n s' e) (hk : s.A.most = k) : s'.A.most = k := by cases hr <;> exact hk
def HDoPost (w0 : World) (pp : Nat) (vT vX : Value) (m k : Nat) (e : Ending) (w' : World) : Prop :=
  e = .returned (.bool true) ∧ ∃ S1 S2 s G gv, HsP w0 pp vT vX S1 S2 s s G gv w' ∧ G.length ≤ m ∧ s.A.most = k
end Go.Proofs.Ytmkajdfajcodjaa
