/-
  Heaps plainly: chains, inners.
-/
import Derived.Test.YtceokibalphgpaaHpF
namespace Go.Proofs.Ytceokibalphgpaa
open Go

def nxt : List Int → Lk
  | [] => ⟨0, 0⟩
  | h :: _ => ⟨1, h⟩
def prv : Option Nat → Option Nat
  | some (k + 1) => some k
  | _ => none
/-- A chain of objects, each held by the one ahead; the one at k (if any) by one more. -/
def chn : Option Nat → List Int → HL
  | _, [] => []
  | k, h :: r => ⟨h, 0, if k = some 0 then 2 else 1, 0, [nxt r], []⟩ :: chn (prv k) r
/-- Who goes of a chain. -/
def took : Option Nat → List Int → List Int
  | none, l => l
  | some k, l => l.take k
theorem chn_h : ∀ (l : List Int) (k : Option Nat), (chn k l).map (·.h) = l
  | [], _ => rfl
  | h :: r, k => by rw [chn, List.map_cons, chn_h r]
theorem chn_nd {l : List Int} (hn : l.Nodup) (k : Option Nat) : Nd (chn k l) := by unfold Nd; rw [chn_h]; exact hn
theorem dn_chn : ∀ (r : List Int) (h : Int) (k : Option Nat), (h :: r).Nodup → ∃ L', Dn (chn k (h :: r)) h L' (took k (h :: r)) [] ∧ L'.map (·.h) = (h :: r).drop (took k (h :: r)).length := by
  intro r
  induction r with
  | nil =>
    intro h k hn
    have hnd := chn_nd hn k
    have hm : (⟨h, 0, if k = some 0 then 2 else 1, 0, [⟨0, 0⟩], []⟩ : Ob) ∈ chn k [h] := by simp [chn, nxt]
    by_cases hk : k = some 0
    · subst hk
      refine ⟨setc (chn (some 0) [h]) h 1, ⟨[], ?_, ?_⟩, ?_⟩
      · rw [letg_one, let1_one hnd hm rfl (by simp)]
        simp [took]
        exact Goes.nil _
      · rw [letg_one, let1_one hnd hm rfl (by simp)]
        rfl
      · rw [setc_h, chn_h]; rfl
    · have h1 := let1_one hnd hm rfl (by simp [hk])
      simp only [hk, if_false] at h1 hm
      have hset : setc (chn k [h]) h 0 = [⟨h, 0, 0, 0, [⟨0, 0⟩], []⟩] := by simp [setc, chn, nxt]
      have htk : took k [h] = [h] := by
        cases k with
        | none => rfl
        | some j =>
          cases j with
          | zero => exact absurd rfl hk
          | succ j => simp [took]
      have ha : awa [⟨h, 0, 0, 0, [⟨0, 0⟩], []⟩] h = ([], [⟨0, 0⟩], [h]) := by simp [awa, fnd]
      refine ⟨[], ⟨[], ?_, ?_⟩, ?_⟩
      · rw [letg_one, h1, htk]
        simp only [Int.sub_self, if_true, hset]
        have h2 : Goes (letg (awa [⟨h, 0, 0, 0, [⟨0, 0⟩], []⟩] h).1 (awa [⟨h, 0, 0, 0, [⟨0, 0⟩], []⟩] h).2.1).1 ([] ++ (letg (awa [⟨h, 0, 0, 0, [⟨0, 0⟩], []⟩] h).1 (awa [⟨h, 0, 0, 0, [⟨0, 0⟩], []⟩] h).2.1).2.1) [] [] [] := by
          rw [ha]
          exact Goes.nil _
        have h3 := Goes.cons (x := h) h2
        rw [ha] at h3
        exact h3
      · rw [letg_one, h1]; rfl
      · rw [htk]; rfl
  | cons h2 r ih =>
    intro h k hn
    have hnd := chn_nd hn k
    have hn' := List.nodup_cons.1 hn
    have hm : (⟨h, 0, if k = some 0 then 2 else 1, 0, [⟨1, h2⟩], []⟩ : Ob) ∈ chn k (h :: h2 :: r) := by simp [chn, nxt]
    by_cases hk : k = some 0
    · subst hk
      refine ⟨setc (chn (some 0) (h :: h2 :: r)) h 1, ⟨[], ?_, ?_⟩, ?_⟩
      · rw [letg_one, let1_one hnd hm rfl (by simp)]
        simp [took]
        exact Goes.nil _
      · rw [letg_one, let1_one hnd hm rfl (by simp)]
        rfl
      · rw [setc_h, chn_h]; rfl
    · have h1 := let1_one hnd hm rfl (by simp [hk])
      simp only [hk, if_false] at h1 hm
      obtain ⟨L', ⟨f2, hg, hf⟩, hl⟩ := ih h2 (prv k) hn'.2
      have hmem : (⟨h, 0, 0, 0, [⟨1, h2⟩], []⟩ : Ob) ∈ setc (chn k (h :: h2 :: r)) h 0 := mem_setc.2 ⟨_, hm, by simp⟩
      have hfil : (setc (chn k (h :: h2 :: r)) h 0).filter (fun x => !(x.h == h)) = chn (prv k) (h2 :: r) := by
        rw [filter_setc]
        have : chn k (h :: h2 :: r) = ⟨h, 0, if k = some 0 then 2 else 1, 0, [⟨1, h2⟩], []⟩ :: chn (prv k) (h2 :: r) := rfl
        rw [this, List.filter_cons_of_neg (by simp)]
        refine List.filter_eq_self.2 fun x hx => ?_
        have hxm : x.h ∈ h2 :: r := by rw [← chn_h (h2 :: r) (prv k)]; exact List.mem_map.2 ⟨x, hx, rfl⟩
        have : x.h ≠ h := fun e => hn'.1 (e ▸ hxm)
        simpa using this
      have ha : awa (setc (chn k (h :: h2 :: r)) h 0) h = (chn (prv k) (h2 :: r), [⟨1, h2⟩], [h]) := by
        have := awa_own (hnd.setc h 0) hmem rfl
        rw [hfil] at this
        exact this
      have htk : took k (h :: h2 :: r) = h :: took (prv k) (h2 :: r) := by
        cases k with
        | none => rfl
        | some j =>
          cases j with
          | zero => exact absurd rfl hk
          | succ j => rfl
      have hf0 : f2 = [] ∧ (letg (chn (prv k) (h2 :: r)) [⟨1, h2⟩]).2.2 = [] := by
        have h := List.append_eq_nil_iff.1 hf.symm
        exact ⟨h.2, h.1⟩
      refine ⟨L', ⟨[], ?_, ?_⟩, ?_⟩
      · rw [letg_one, h1, htk]
        simp only [Int.sub_self, if_true]
        have h4 : Goes (letg (awa (setc (chn k (h :: h2 :: r)) h 0) h).1 (awa (setc (chn k (h :: h2 :: r)) h 0) h).2.1).1 ([] ++ (letg (awa (setc (chn k (h :: h2 :: r)) h 0) h).1 (awa (setc (chn k (h :: h2 :: r)) h 0) h).2.1).2.1) L' (took (prv k) (h2 :: r)) f2 := by
          rw [ha]
          exact hg
        have h5 := Goes.cons (x := h) h4
        rw [ha] at h5
        simp only [hf0.2, hf0.1] at h5
        exact h5
      · rw [letg_one, h1]; rfl
      · rw [hl, htk]; rfl
theorem prv_none : prv none = none := rfl
/-- An object more, held by the last one alone. -/
theorem chn_more : ∀ (l : List Int) (h : Int), (l ++ [h]).Nodup → ∀ last, l.getLast? = some last →
    setc (setl (setc (chn none l ++ [⟨h, 0, 1, 0, [⟨0, 0⟩], []⟩]) h 2) last 0 ⟨1, h⟩) h 1 = chn none (l ++ [h]) := by
  intro l
  induction l with
  | nil => intro h _ last hl; simp at hl
  | cons a r ih =>
    intro h hn last hl
    have hn' : (a :: (r ++ [h])).Nodup := hn
    rw [List.nodup_cons] at hn'
    have hah : a ≠ h := fun e => hn'.1 (by simp [e])
    cases r with
    | nil =>
      simp at hl
      subst hl
      simp [chn, setc, setl, nxt, prv, hah, hah.symm]
    | cons b r =>
      have hl2 : (b :: r).getLast? = some last := by rw [List.getLast?_cons_cons] at hl; exact hl
      have hal : a ≠ last := fun e => hn'.1 (by
        rw [e]
        have := List.mem_of_getLast? hl2
        exact List.mem_append.2 (.inl this))
      have h2 := ih h hn'.2 last hl2
      have e1 : chn none (a :: b :: r) = ⟨a, 0, 1, 0, [⟨1, b⟩], []⟩ :: chn none (b :: r) := rfl
      have e2 : chn none (a :: b :: r ++ [h]) = ⟨a, 0, 1, 0, [⟨1, b⟩], []⟩ :: chn none (b :: r ++ [h]) := rfl
      rw [e1, e2, ← h2]
      simp [setc, setl, hah, hal]
/-- One is held by one more. -/
theorem chn_up : ∀ (l : List Int) (k : Nat) (h : Int), l.Nodup → l[k]? = some h → setc (chn none l) h 2 = chn (some k) l := by
  intro l
  induction l with
  | nil => intro k h _ hk; simp at hk
  | cons a r ih =>
    intro k h hn hk
    have hn' := List.nodup_cons.1 hn
    have hself : ∀ x, x ∉ r → setc (chn none r) x 2 = chn none r := fun x hx => by
      unfold setc
      refine (List.map_congr_left fun o ho => ?_).trans (List.map_id _)
      have : o.h ≠ x := fun e => hx (by rw [← e, ← chn_h r none]; exact List.mem_map.2 ⟨o, ho, rfl⟩)
      simp [this]
    cases k with
    | zero =>
      simp at hk
      subst hk
      have h1 := hself a hn'.1
      unfold setc at h1
      simp only [chn, setc, List.map_cons, prv, h1, if_true]
      try simp
    | succ k =>
      have hk' : r[k]? = some h := by simpa using hk
      have hah : a ≠ h := fun e => hn'.1 (e ▸ List.mem_of_getElem? hk')
      have h1 := ih k h hn'.2 hk'
      unfold setc at h1
      simp only [chn, setc, List.map_cons, prv, h1, hah, if_false]
      try simp
/-- A whole with its inners. -/
def inn (o c : Int) (l : List Int) : HL := ⟨o, 0, c, 0, [], l⟩ :: l.map fun h => ⟨h, o, 1, 0, [⟨0, 0⟩], []⟩
theorem inn_h (o c : Int) (l : List Int) : (inn o c l).map (·.h) = o :: l := by
  simp [inn, Function.comp_def]
theorem inn_nd {o c : Int} {l : List Int} (hn : (o :: l).Nodup) : Nd (inn o c l) := by unfold Nd; rw [inn_h]; exact hn
theorem inn_whl {o c h : Int} {l : List Int} (hn : (o :: l).Nodup) (h0 : o ≠ 0) (hh : h ∈ o :: l) : whl (inn o c l) h = some ⟨o, 0, c, 0, [], l⟩ := by
  have hm : (⟨o, 0, c, 0, [], l⟩ : Ob) ∈ inn o c l := by simp [inn]
  have hf := fnd_mem (inn_nd (c := c) hn) hm
  rcases List.mem_cons.1 hh with rfl | hh
  · unfold whl
    rw [hf]; rfl
  · have hm2 : (⟨h, o, 1, 0, [⟨0, 0⟩], []⟩ : Ob) ∈ inn o c l := by
      unfold inn
      exact List.mem_cons_of_mem _ (List.mem_map.2 ⟨h, hh, rfl⟩)
    have hf2 := fnd_mem (inn_nd (c := c) hn) hm2
    unfold whl
    rw [hf2]
    simp only [h0, if_false]
    exact hf
theorem inn_setc {o c d : Int} {l : List Int} (hn : (o :: l).Nodup) : setc (inn o c l) o d = inn o d l := by
  have hn' := List.nodup_cons.1 hn
  unfold setc inn
  rw [List.map_cons, List.map_map]
  simp only [if_true]
  congr 1
  refine List.map_congr_left fun h hh => ?_
  have : h ≠ o := fun e => hn'.1 (e ▸ hh)
  simp [this]
theorem let1_inn {o c h : Int} {l : List Int} (hn : (o :: l).Nodup) (h0 : o ≠ 0) (hh : h ∈ o :: l) (hc : c ≠ 0) : let1 (inn o c l) ⟨1, h⟩ = (inn o (c - 1) l, if c = 1 then [o] else [], []) := by
  unfold let1
  simp [inn_whl hn h0 hh, hc, inn_setc hn]
theorem dn_inn {o c h : Int} {l : List Int} (hn : (o :: l).Nodup) (h0 : o ≠ 0) (hh : h ∈ o :: l) (hc : c ≠ 0) (h1 : c ≠ 1) {L' : HL} {g f : List Int} (hd : Dn (inn o c l) h L' g f) : L' = inn o (c - 1) l ∧ g = [] ∧ f = [] := by
  obtain ⟨f2, hg, hf⟩ := hd
  rw [letg_one, let1_inn hn h0 hh hc] at hg hf
  simp only [h1, if_false] at hg hf
  obtain ⟨e1, e2, e3⟩ := hg.same (Goes.nil _)
  exact ⟨e1, e2, by rw [hf, e3]; rfl⟩
theorem dn_inn_last {o h : Int} {l : List Int} (hn : (o :: l).Nodup) (h0 : o ≠ 0) (hh : h ∈ o :: l) {L' : HL} {g f : List Int} (hd : Dn (inn o 1 l) h L' g f) : L' = [] ∧ g = o :: l ∧ f = [] := by
  obtain ⟨f2, hg, hf⟩ := hd
  rw [letg_one, let1_inn hn h0 hh (by omega)] at hg hf
  simp only [if_true, Int.sub_self] at hg hf
  have hm : (⟨o, 0, 0, 0, [], l⟩ : Ob) ∈ inn o 0 l := by simp [inn]
  have hall : ∀ m : List Int, (∀ h ∈ m, h ∈ l) → m.filterMap (fnd (inn o 0 l)) = m.map fun h => ⟨h, o, 1, 0, [⟨0, 0⟩], []⟩ := fun m hm => by
    induction m with
    | nil => rfl
    | cons a m ih =>
      have hm2 : (⟨a, o, 1, 0, [⟨0, 0⟩], []⟩ : Ob) ∈ inn o 0 l := by
        unfold inn
        exact List.mem_cons_of_mem _ (List.mem_map.2 ⟨a, hm a (by simp), rfl⟩)
      rw [List.filterMap_cons, fnd_mem (inn_nd hn) hm2, ih fun h hh => hm h (by simp [hh])]
      rfl
  have hfl : ∀ m : List Int, ((m.map fun h => (⟨h, o, 1, 0, [⟨0, 0⟩], []⟩ : Ob)).flatMap (·.links)) = m.map fun _ => ⟨0, 0⟩ := fun m => by
    induction m with
    | nil => rfl
    | cons a m ih => rw [List.map_cons, List.flatMap_cons, ih]; rfl
  have hfm : (l.filterMap (fnd (inn o 0 l))).flatMap (·.links) = l.map fun _ => ⟨0, 0⟩ := by rw [hall l fun _ h => h, hfl]
  have ha : awa (inn o 0 l) o = ([], l.map fun _ => ⟨0, 0⟩, o :: l) := by
    unfold awa
    rw [fnd_mem (inn_nd hn) hm]
    simp only [List.nil_append, hfm]
    congr 1
    refine List.filter_eq_nil_iff.2 fun x hx => ?_
    have : x.h ∈ o :: l := by rw [← inn_h o 0 l]; exact List.mem_map.2 ⟨x, hx, rfl⟩
    rcases List.mem_cons.1 this with e | e
    · simp [e]
    · simp [e]
  have hl : letg [] (l.map fun _ => (⟨0, 0⟩ : Lk)) = ([], [], fors (l.map fun _ => (⟨0, 0⟩ : Lk))) := letg_for fun x hx => by
    obtain ⟨_, _, rfl⟩ := List.mem_map.1 hx
    decide
  have hfo : fors (l.map fun _ => (⟨0, 0⟩ : Lk)) = [] := by
    unfold fors
    rw [List.filter_eq_nil_iff.2 fun x hx => by obtain ⟨_, _, rfl⟩ := List.mem_map.1 hx; decide]
    rfl
  rw [hfo] at hl
  have h2 : Goes (letg (awa (inn o 0 l) o).1 (awa (inn o 0 l) o).2.1).1 ([] ++ (letg (awa (inn o 0 l) o).1 (awa (inn o 0 l) o).2.1).2.1) [] [] [] := by
    rw [ha]
    simp only [hl]
    exact Goes.nil _
  have h3 := Goes.cons (x := o) h2
  rw [ha] at h3
  simp only [hl] at h3
  obtain ⟨e1, e2, e3⟩ := hg.same h3
  exact ⟨e1, by simpa using e2, by rw [hf, e3]; rfl⟩
end Go.Proofs.Ytceokibalphgpaa
