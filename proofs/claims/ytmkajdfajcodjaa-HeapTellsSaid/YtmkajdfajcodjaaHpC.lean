/- HpH HpC in one -/
import Derived.Test.YtmkajdfajcodjaaHpF
import Derived.Test.YtmkajdfajcodjaaChecked
import Derived.Test.YtmkajdfajcodjaaHpR
import Derived.Test.YtmkajdfajcodjaaNum
import Derived.Test.YtmkajdfajcodjaaHpL
import Derived.Test.YtmkajdfajcodjaaArM
namespace Go.Proofs.Ytmkajdfajcodjaa
open Go

def nxt : List Int → Lk
  | [] => ⟨0, 0⟩
  | h :: _ => ⟨1, h⟩
def prv : Option Nat → Option Nat
  | some (k + 1) => some k
  | _ => none
/-- A chain of objects, each held by the one ahead; the one at k (if any) by one more. -/
def chn : Option Nat → List Int → HL
  | _, [] => []
  | k, h :: r => ⟨h, 0, if k = some 0 then 2 else 1, 0, [nxt r], []⟩ :: chn (prv k) r
/-- Who goes of a chain. -/
def took : Option Nat → List Int → List Int
  | none, l => l
  | some k, l => l.take k
theorem chn_h : ∀ (l : List Int) (k : Option Nat), (chn k l).map (·.h) = l
  | [], _ => rfl
  | h :: r, k => by rw [chn, List.map_cons, chn_h r]
theorem chn_nd {l : List Int} (hn : l.Nodup) (k : Option Nat) : Nd (chn k l) := by unfold Nd; rw [chn_h]; exact hn
theorem dn_chn : ∀ (r : List Int) (h : Int) (k : Option Nat), (h :: r).Nodup → ∃ L', Dn (chn k (h :: r)) h L' (took k (h :: r)) [] ∧ L'.map (·.h) = (h :: r).drop (took k (h :: r)).length := by
  intro r
  induction r with
  | nil =>
    intro h k hn
    have hnd := chn_nd hn k
    have hm : (⟨h, 0, if k = some 0 then 2 else 1, 0, [⟨0, 0⟩], []⟩ : Ob) ∈ chn k [h] := by simp [chn, nxt]
    by_cases hk : k = some 0
    · subst hk
      refine ⟨setc (chn (some 0) [h]) h 1, ⟨[], ?_, ?_⟩, ?_⟩
      · rw [letg_one, let1_one hnd hm rfl (by simp)]
        simp [took]
        exact Goes.nil _
      · rw [letg_one, let1_one hnd hm rfl (by simp)]
        rfl
      · rw [setc_h, chn_h]; rfl
    · have h1 := let1_one hnd hm rfl (by simp [hk])
      simp only [hk, if_false] at h1 hm
      have hset : setc (chn k [h]) h 0 = [⟨h, 0, 0, 0, [⟨0, 0⟩], []⟩] := by simp [setc, chn, nxt]
      have htk : took k [h] = [h] := by
        cases k with
        | none => rfl
        | some j =>
          cases j with
          | zero => exact absurd rfl hk
          | succ j => simp [took]
      have ha : awa [⟨h, 0, 0, 0, [⟨0, 0⟩], []⟩] h = ([], [⟨0, 0⟩], [h]) := by simp [awa, fnd]
      refine ⟨[], ⟨[], ?_, ?_⟩, ?_⟩
      · rw [letg_one, h1, htk]
        simp only [Int.sub_self, if_true, hset]
        have h2 : Goes (letg (awa [⟨h, 0, 0, 0, [⟨0, 0⟩], []⟩] h).1 (awa [⟨h, 0, 0, 0, [⟨0, 0⟩], []⟩] h).2.1).1 ([] ++ (letg (awa [⟨h, 0, 0, 0, [⟨0, 0⟩], []⟩] h).1 (awa [⟨h, 0, 0, 0, [⟨0, 0⟩], []⟩] h).2.1).2.1) [] [] [] := by
          rw [ha]
          exact Goes.nil _
        have h3 := Goes.cons (x := h) h2
        rw [ha] at h3
        exact h3
      · rw [letg_one, h1]; rfl
      · rw [htk]; rfl
  | cons h2 r ih =>
    intro h k hn
    have hnd := chn_nd hn k
    have hn' := List.nodup_cons.1 hn
    have hm : (⟨h, 0, if k = some 0 then 2 else 1, 0, [⟨1, h2⟩], []⟩ : Ob) ∈ chn k (h :: h2 :: r) := by simp [chn, nxt]
    by_cases hk : k = some 0
    · subst hk
      refine ⟨setc (chn (some 0) (h :: h2 :: r)) h 1, ⟨[], ?_, ?_⟩, ?_⟩
      · rw [letg_one, let1_one hnd hm rfl (by simp)]
        simp [took]
        exact Goes.nil _
      · rw [letg_one, let1_one hnd hm rfl (by simp)]
        rfl
      · rw [setc_h, chn_h]; rfl
    · have h1 := let1_one hnd hm rfl (by simp [hk])
      simp only [hk, if_false] at h1 hm
      obtain ⟨L', ⟨f2, hg, hf⟩, hl⟩ := ih h2 (prv k) hn'.2
      have hmem : (⟨h, 0, 0, 0, [⟨1, h2⟩], []⟩ : Ob) ∈ setc (chn k (h :: h2 :: r)) h 0 := mem_setc.2 ⟨_, hm, by simp⟩
      have hfil : (setc (chn k (h :: h2 :: r)) h 0).filter (fun x => !(x.h == h)) = chn (prv k) (h2 :: r) := by
        rw [filter_setc]
        have : chn k (h :: h2 :: r) = ⟨h, 0, if k = some 0 then 2 else 1, 0, [⟨1, h2⟩], []⟩ :: chn (prv k) (h2 :: r) := rfl
        rw [this, List.filter_cons_of_neg (by simp)]
        refine List.filter_eq_self.2 fun x hx => ?_
        have hxm : x.h ∈ h2 :: r := by rw [← chn_h (h2 :: r) (prv k)]; exact List.mem_map.2 ⟨x, hx, rfl⟩
        have : x.h ≠ h := fun e => hn'.1 (e ▸ hxm)
        simpa using this
      have ha : awa (setc (chn k (h :: h2 :: r)) h 0) h = (chn (prv k) (h2 :: r), [⟨1, h2⟩], [h]) := by
        have := awa_own (hnd.setc h 0) hmem rfl
        rw [hfil] at this
        exact this
      have htk : took k (h :: h2 :: r) = h :: took (prv k) (h2 :: r) := by
        cases k with
        | none => rfl
        | some j =>
          cases j with
          | zero => exact absurd rfl hk
          | succ j => rfl
      have hf0 : f2 = [] ∧ (letg (chn (prv k) (h2 :: r)) [⟨1, h2⟩]).2.2 = [] := by
        have h := List.append_eq_nil_iff.1 hf.symm
        exact ⟨h.2, h.1⟩
      refine ⟨L', ⟨[], ?_, ?_⟩, ?_⟩
      · rw [letg_one, h1, htk]
        simp only [Int.sub_self, if_true]
        have h4 : Goes (letg (awa (setc (chn k (h :: h2 :: r)) h 0) h).1 (awa (setc (chn k (h :: h2 :: r)) h 0) h).2.1).1 ([] ++ (letg (awa (setc (chn k (h :: h2 :: r)) h 0) h).1 (awa (setc (chn k (h :: h2 :: r)) h 0) h).2.1).2.1) L' (took (prv k) (h2 :: r)) f2 := by
          rw [ha]
          exact hg
        have h5 := Goes.cons (x := h) h4
        rw [ha] at h5
        simp only [hf0.2, hf0.1] at h5
        exact h5
      · rw [letg_one, h1]; rfl
      · rw [hl, htk]; rfl
theorem prv_none : prv none = none := rfl
/-- An object more, held by the last one alone. -/
theorem chn_more : ∀ (l : List Int) (h : Int), (l ++ [h]).Nodup → ∀ last, l.getLast? = some last →
    setc (setl (setc (chn none l ++ [⟨h, 0, 1, 0, [⟨0, 0⟩], []⟩]) h 2) last 0 ⟨1, h⟩) h 1 = chn none (l ++ [h]) := by
  intro l
  induction l with
  | nil => intro h _ last hl; simp at hl
  | cons a r ih =>
    intro h hn last hl
    have hn' : (a :: (r ++ [h])).Nodup := hn
    rw [List.nodup_cons] at hn'
    have hah : a ≠ h := fun e => hn'.1 (by simp [e])
    cases r with
    | nil =>
      simp at hl
      subst hl
      simp [chn, setc, setl, nxt, prv, hah, hah.symm]
    | cons b r =>
      have hl2 : (b :: r).getLast? = some last := by rw [List.getLast?_cons_cons] at hl; exact hl
      have hal : a ≠ last := fun e => hn'.1 (by
        rw [e]
        have := List.mem_of_getLast? hl2
        exact List.mem_append.2 (.inl this))
      have h2 := ih h hn'.2 last hl2
      have e1 : chn none (a :: b :: r) = ⟨a, 0, 1, 0, [⟨1, b⟩], []⟩ :: chn none (b :: r) := rfl
      have e2 : chn none (a :: b :: r ++ [h]) = ⟨a, 0, 1, 0, [⟨1, b⟩], []⟩ :: chn none (b :: r ++ [h]) := rfl
      rw [e1, e2, ← h2]
      simp [setc, setl, hah, hal]
/-- One is held by one more. -/
theorem chn_up : ∀ (l : List Int) (k : Nat) (h : Int), l.Nodup → l[k]? = some h → setc (chn none l) h 2 = chn (some k) l := by
  intro l
  induction l with
  | nil => intro k h _ hk; simp at hk
  | cons a r ih =>
    intro k h hn hk
    have hn' := List.nodup_cons.1 hn
    have hself : ∀ x, x ∉ r → setc (chn none r) x 2 = chn none r := fun x hx => by
      unfold setc
      refine (List.map_congr_left fun o ho => ?_).trans (List.map_id _)
      have : o.h ≠ x := fun e => hx (by rw [← e, ← chn_h r none]; exact List.mem_map.2 ⟨o, ho, rfl⟩)
      simp [this]
    cases k with
    | zero =>
      simp at hk
      subst hk
      have h1 := hself a hn'.1
      unfold setc at h1
      simp only [chn, setc, List.map_cons, prv, h1, if_true]
      try simp
    | succ k =>
      have hk' : r[k]? = some h := by simpa using hk
      have hah : a ≠ h := fun e => hn'.1 (e ▸ List.mem_of_getElem? hk')
      have h1 := ih k h hn'.2 hk'
      unfold setc at h1
      simp only [chn, setc, List.map_cons, prv, h1, hah, if_false]
      try simp
/-- A whole with its inners. -/
def inn (o c : Int) (l : List Int) : HL := ⟨o, 0, c, 0, [], l⟩ :: l.map fun h => ⟨h, o, 1, 0, [⟨0, 0⟩], []⟩
theorem inn_h (o c : Int) (l : List Int) : (inn o c l).map (·.h) = o :: l := by
  simp [inn, Function.comp_def]
theorem inn_nd {o c : Int} {l : List Int} (hn : (o :: l).Nodup) : Nd (inn o c l) := by unfold Nd; rw [inn_h]; exact hn
theorem inn_whl {o c h : Int} {l : List Int} (hn : (o :: l).Nodup) (h0 : o ≠ 0) (hh : h ∈ o :: l) : whl (inn o c l) h = some ⟨o, 0, c, 0, [], l⟩ := by
  have hm : (⟨o, 0, c, 0, [], l⟩ : Ob) ∈ inn o c l := by simp [inn]
  have hf := fnd_mem (inn_nd (c := c) hn) hm
  rcases List.mem_cons.1 hh with rfl | hh
  · unfold whl
    rw [hf]; rfl
  · have hm2 : (⟨h, o, 1, 0, [⟨0, 0⟩], []⟩ : Ob) ∈ inn o c l := by
      unfold inn
      exact List.mem_cons_of_mem _ (List.mem_map.2 ⟨h, hh, rfl⟩)
    have hf2 := fnd_mem (inn_nd (c := c) hn) hm2
    unfold whl
    rw [hf2]
    simp only [h0, if_false]
    exact hf
theorem inn_setc {o c d : Int} {l : List Int} (hn : (o :: l).Nodup) : setc (inn o c l) o d = inn o d l := by
  have hn' := List.nodup_cons.1 hn
  unfold setc inn
  rw [List.map_cons, List.map_map]
  simp only [if_true]
  congr 1
  refine List.map_congr_left fun h hh => ?_
  have : h ≠ o := fun e => hn'.1 (e ▸ hh)
  simp [this]
theorem let1_inn {o c h : Int} {l : List Int} (hn : (o :: l).Nodup) (h0 : o ≠ 0) (hh : h ∈ o :: l) (hc : c ≠ 0) : let1 (inn o c l) ⟨1, h⟩ = (inn o (c - 1) l, if c = 1 then [o] else [], []) := by
  unfold let1
  simp [inn_whl hn h0 hh, hc, inn_setc hn]
theorem dn_inn {o c h : Int} {l : List Int} (hn : (o :: l).Nodup) (h0 : o ≠ 0) (hh : h ∈ o :: l) (hc : c ≠ 0) (h1 : c ≠ 1) {L' : HL} {g f : List Int} (hd : Dn (inn o c l) h L' g f) : L' = inn o (c - 1) l ∧ g = [] ∧ f = [] := by
  obtain ⟨f2, hg, hf⟩ := hd
  rw [letg_one, let1_inn hn h0 hh hc] at hg hf
  simp only [h1, if_false] at hg hf
  obtain ⟨e1, e2, e3⟩ := hg.same (Goes.nil _)
  exact ⟨e1, e2, by rw [hf, e3]; rfl⟩
theorem dn_inn_last {o h : Int} {l : List Int} (hn : (o :: l).Nodup) (h0 : o ≠ 0) (hh : h ∈ o :: l) {L' : HL} {g f : List Int} (hd : Dn (inn o 1 l) h L' g f) : L' = [] ∧ g = o :: l ∧ f = [] := by
  obtain ⟨f2, hg, hf⟩ := hd
  rw [letg_one, let1_inn hn h0 hh (by omega)] at hg hf
  simp only [if_true, Int.sub_self] at hg hf
  have hm : (⟨o, 0, 0, 0, [], l⟩ : Ob) ∈ inn o 0 l := by simp [inn]
  have hall : ∀ m : List Int, (∀ h ∈ m, h ∈ l) → m.filterMap (fnd (inn o 0 l)) = m.map fun h => ⟨h, o, 1, 0, [⟨0, 0⟩], []⟩ := fun m hm => by
    induction m with
    | nil => rfl
    | cons a m ih =>
      have hm2 : (⟨a, o, 1, 0, [⟨0, 0⟩], []⟩ : Ob) ∈ inn o 0 l := by
        unfold inn
        exact List.mem_cons_of_mem _ (List.mem_map.2 ⟨a, hm a (by simp), rfl⟩)
      rw [List.filterMap_cons, fnd_mem (inn_nd hn) hm2, ih fun h hh => hm h (by simp [hh])]
      rfl
  have hfl : ∀ m : List Int, ((m.map fun h => (⟨h, o, 1, 0, [⟨0, 0⟩], []⟩ : Ob)).flatMap (·.links)) = m.map fun _ => ⟨0, 0⟩ := fun m => by
    induction m with
    | nil => rfl
    | cons a m ih => rw [List.map_cons, List.flatMap_cons, ih]; rfl
  have hfm : (l.filterMap (fnd (inn o 0 l))).flatMap (·.links) = l.map fun _ => ⟨0, 0⟩ := by rw [hall l fun _ h => h, hfl]
  have ha : awa (inn o 0 l) o = ([], l.map fun _ => ⟨0, 0⟩, o :: l) := by
    unfold awa
    rw [fnd_mem (inn_nd hn) hm]
    simp only [List.nil_append, hfm]
    congr 1
    refine List.filter_eq_nil_iff.2 fun x hx => ?_
    have : x.h ∈ o :: l := by rw [← inn_h o 0 l]; exact List.mem_map.2 ⟨x, hx, rfl⟩
    rcases List.mem_cons.1 this with e | e
    · simp [e]
    · simp [e]
  have hl : letg [] (l.map fun _ => (⟨0, 0⟩ : Lk)) = ([], [], fors (l.map fun _ => (⟨0, 0⟩ : Lk))) := letg_for fun x hx => by
    obtain ⟨_, _, rfl⟩ := List.mem_map.1 hx
    decide
  have hfo : fors (l.map fun _ => (⟨0, 0⟩ : Lk)) = [] := by
    unfold fors
    rw [List.filter_eq_nil_iff.2 fun x hx => by obtain ⟨_, _, rfl⟩ := List.mem_map.1 hx; decide]
    rfl
  rw [hfo] at hl
  have h2 : Goes (letg (awa (inn o 0 l) o).1 (awa (inn o 0 l) o).2.1).1 ([] ++ (letg (awa (inn o 0 l) o).1 (awa (inn o 0 l) o).2.1).2.1) [] [] [] := by
    rw [ha]
    simp only [hl]
    exact Goes.nil _
  have h3 := Goes.cons (x := o) h2
  rw [ha] at h3
  simp only [hl] at h3
  obtain ⟨e1, e2, e3⟩ := hg.same h3
  exact ⟨e1, by simpa using e2, by rw [hf, e3]; rfl⟩
end Go.Proofs.Ytmkajdfajcodjaa

namespace Go.Proofs.Ytmkajdfajcodjaa
open Go Go.ChangeShapes Go.WideShapes Go.ChangeAt Go.RowKit

/-- A heap: its greatest count, its places, its objects, and all handles that it ever gave. -/
structure Hs where
  top : Int
  A : Ar
  L : HL
  G : List Int
/-- What always holds of it. -/
structure HOk (s : Hs) : Prop where
  aok : Ok s.A
  has : ∀ o ∈ s.L, ∃ i sp, Found s.A o.h i sp
  nd : Nd s.L
  gnd : s.G.Nodup
  sub : ∀ o ∈ s.L, o.h ∈ s.G
  tak : ∀ (i : Nat) sp, s.A.L[i]? = some sp → sp.t = true → ∃ o ∈ s.L, o.h = hand i sp.g
  nz : ∀ h ∈ s.G, 1 ≤ h ∧ h ≤ 18446744073709551615
def newOb (h outer : Int) (n : Nat) : Ob := ⟨h, outer, 1, 0, List.replicate n ⟨0, 0⟩, []⟩
def addIn (L : HL) (o h : Int) : HL := if o = 0 then L else L.map fun p => if p.h = o then { p with inners := p.inners ++ [h] } else p
/-- An object is made. -/
inductive MkR (s : Hs) (slots outer : Int) : Hs → Int → Int → Prop
  | arg (h : slots < 0 ∨ 8 < slots) : MkR s slots outer s 0 1
  | stale (h : 0 ≤ slots ∧ slots ≤ 8) (h0 : outer ≠ 0) (hf : fnd s.L outer = none) : MkR s slots outer s 0 2
  | inner (h : 0 ≤ slots ∧ slots ≤ 8) (h0 : outer ≠ 0) (o : Ob) (hf : fnd s.L outer = some o) (ho : o.outer ≠ 0) : MkR s slots outer s 0 1
  | full (h : 0 ≤ slots ∧ slots ≤ 8) (h0 : outer ≠ 0 → ∃ o, fnd s.L outer = some o ∧ o.outer = 0) (hf : Full s.A) : MkR s slots outer s 0 3
  | ok (h : 0 ≤ slots ∧ slots ≤ 8) (h0 : outer ≠ 0 → ∃ o, fnd s.L outer = some o ∧ o.outer = 0) {i g : Nat} {A' : Ar} (hp : Put s.A 0 i g A') :
      MkR s slots outer ⟨s.top, A', addIn s.L outer (hand i g) ++ [newOb (hand i g) outer slots.toNat], s.G ++ [hand i g]⟩ (hand i g) 0
/-- Places are dropped. -/
inductive DrR : Ar → List Int → Ar → Prop
  | nil (A : Ar) : DrR A [] A
  | cons {A A' : Ar} {h : Int} {l : List Int} {i : Nat} {sp : Spot} (hf : Found A h i sp) (r : DrR (dropAt A i sp) l A') : DrR A (h :: l) A'
inductive UpR (s : Hs) (h : Int) : Hs → Int → Int → Prop
  | stale (hw : whl s.L h = none) : UpR s h s 0 2
  | top (w : Ob) (hw : whl s.L h = some w) (hc : w.count = s.top) : UpR s h s 0 4
  | ok (w : Ob) (hw : whl s.L h = some w) (hc : w.count ≠ s.top) : UpR s h { s with L := setc s.L w.h (w.count + 1) } (w.count + 1) 0
inductive DnR (s : Hs) (h : Int) : Hs → List Int → List Int → Int → Prop
  | stale (hf : fnd s.L h = none) : DnR s h s [] [] 2
  | ok (o : Ob) (hf : fnd s.L h = some o) {L' : HL} {A' : Ar} {g f : List Int} (hd : Dn s.L h L' g f) (ha : DrR s.A g A') : DnR s h { s with L := L', A := A' } g f 0
inductive PuR (s : Hs) (h slot : Int) (x : Lk) : Hs → List Int → List Int → Int → Prop
  | stale (hf : fnd s.L h = none) : PuR s h slot x s [] [] 2
  | arg (o : Ob) (hf : fnd s.L h = some o) (hb : slot < 0 ∨ (o.links.length : Int) ≤ slot ∨ x.kind < 0 ∨ 2 < x.kind ∨ (x.kind = 0 ∧ x.h ≠ 0)) : PuR s h slot x s [] [] 1
  | no (o : Ob) (hf : fnd s.L h = some o) (hs : 0 ≤ slot ∧ slot < o.links.length) (hk : x.kind = 1) {n e : Int} (hu : UpR s x.h s n e) (he : e ≠ 0) : PuR s h slot x s [] [] e
  | obj (o : Ob) (hf : fnd s.L h = some o) (hs : 0 ≤ slot ∧ slot < o.links.length) (hk : x.kind = 1) {s1 : Hs} {n : Int} (hu : UpR s x.h s1 n 0) {old : Lk} (ho : o.links[slot.toNat]? = some old) {L' : HL} {A' : Ar} {g f : List Int} (hp : Pu s1.L h slot.toNat x old L' g f) (ha : DrR s.A g A') : PuR s h slot x { s with L := L', A := A' } g f 0
  | oth (o : Ob) (hf : fnd s.L h = some o) (hs : 0 ≤ slot ∧ slot < o.links.length) (hk : (x.kind = 0 ∧ x.h = 0) ∨ x.kind = 2) {old : Lk} (ho : o.links[slot.toNat]? = some old) {L' : HL} {A' : Ar} {g f : List Int} (hp : Pu s.L h slot.toNat x old L' g f) (ha : DrR s.A g A') : PuR s h slot x { s with L := L', A := A' } g f 0
/-- All handles, by rising places. -/
def allA (A : Ar) : List Int := (A.L.zipIdx.filter (·.1.t)).map fun p => hand p.2 p.1.g
theorem allA_nil {s : Hs} (h : HOk s) (h0 : s.L = []) : allA s.A = [] := by
  unfold allA
  rw [List.filter_eq_nil_iff.2, List.map_nil]
  rintro ⟨sp, i⟩ hm ht
  have hi := List.mem_zipIdx_iff_getElem?.1 hm
  obtain ⟨o, ho, _⟩ := h.tak i sp hi ht
  rw [h0] at ho
  cases ho
/-- The contracts of a heap's calls, under a way to lay it in memory. -/
structure HeapB (w0 : World) (Rp : (Nat → Prop) → World → Value → Hs → Prop) : Prop where
  ok : ∀ {S : Nat → Prop} {w : World} {p : Value} {s : Hs}, Rp S w p s → HOk s
  lt : ∀ {S : Nat → Prop} {w : World} {p : Value} {s : Hs}, Rp S w p s → ∀ b, S b → b < w.heap.size
  keep : ∀ {S : Nat → Prop} {w w' : World} {p : Value} {s : Hs}, Rp S w p s → (∀ b, S b → w'.heap[b]? = w.heap[b]?) → w.heap.size ≤ w'.heap.size → Rp S w' p s
  ptr : ∀ {S : Nat → Prop} {w : World} {p : Value} {s : Hs}, Rp S w p s → ∃ b, p = .pointer (some ⟨b, 0, none⟩)
  new : ∀ (m t : Int) (w : World), Below w0.heap.size w0 w → Nm m → U32 t → Calls Try.prog 10 #[.int .i64 m, .int .u32 t] w fun e w' => Below w.heap.size w w' ∧
    (if 1 ≤ m ∧ m ≤ 256 ∧ t ≠ 0 then ∃ p S, e = .returned (.tuple #[p, .int .i64 0]) ∧ (∀ b, S b → w.heap.size ≤ b) ∧ Rp S w' p ⟨t, Go.Proofs.Ytmkajdfajcodjaa.new m.toNat 1, [], []⟩ else e = .returned (.tuple #[.pointer none, .int .i64 1]))
  make : ∀ (S : Nat → Prop) (w : World) (p : Value) (s : Hs) (slots outer : Int), Below w0.heap.size w0 w → Rp S w p s → Nm slots → Hn outer → Calls Try.prog 23 #[p, .int .i64 slots, .int .u64 outer] w fun e w' => Fr S w w' ∧
    ∃ s' h er, e = .returned (.tuple #[.int .u64 h, .int .i64 er]) ∧ MkR s slots outer s' h er ∧ Rp (exS S w w') w' p s'
  up : ∀ (S : Nat → Prop) (w : World) (p : Value) (s : Hs) (h : Int), Below w0.heap.size w0 w → Rp S w p s → Hn h → Calls Try.prog 24 #[p, .int .u64 h] w fun e w' => Fr S w w' ∧
    ∃ s' n er, e = .returned (.tuple #[.int .u32 n, .int .i64 er]) ∧ UpR s h s' n er ∧ Rp (exS S w w') w' p s'
  dn : ∀ (S : Nat → Prop) (w : World) (p : Value) (s : Hs) (h : Int), Below w0.heap.size w0 w → Rp S w p s → Hn h → Calls Try.prog 25 #[p, .int .u64 h] w fun e w' => Fr S w w' ∧
    ∃ s' g f er vg vf, e = .returned (.tuple #[vg, vf, .int .i64 er]) ∧ Told TU u64v w' vg g ∧ Told TU u64v w' vf f ∧ DnR s h s' g f er ∧ Rp (exS S w w') w' p s'
  pu : ∀ (S : Nat → Prop) (w : World) (p : Value) (s : Hs) (h slot : Int) (x : Lk), Below w0.heap.size w0 w → Rp S w p s → Hn h → Nm slot → Nm x.kind → Hn x.h → Calls Try.prog 27 #[p, .int .u64 h, .int .i64 slot, .agg #[.int .i64 x.kind, .int .u64 x.h]] w fun e w' => Fr S w w' ∧
    ∃ s' g f er vg vf, e = .returned (.tuple #[vg, vf, .int .i64 er]) ∧ Told TU u64v w' vg g ∧ Told TU u64v w' vf f ∧ PuR s h slot x s' g f er ∧ Rp (exS S w w') w' p s'
  cn : ∀ (S : Nat → Prop) (w : World) (p : Value) (s : Hs) (h : Int), Below w0.heap.size w0 w → Rp S w p s → Hn h → Calls Try.prog 26 #[p, .int .u64 h] w fun e w' => Below w.heap.size w w' ∧
    e = .returned (.int .u32 (match whl s.L h with | some o => o.count | none => 0))
/-- .. with what the law's own helpers do of it. -/
structure HeapC (w0 : World) (Rp : (Nat → Prop) → World → Value → Hs → Prop) : Prop extends HeapB w0 Rp where
  all : ∀ (S : Nat → Prop) (w : World) (p : Value) (s : Hs) (m : Nat), Below w0.heap.size w0 w → Rp S w p s → m ≤ 100000 → Calls Try.prog 22 #[p, .int .i64 m] w fun e w' => Below w.heap.size w w' ∧
    ∃ v, e = .returned v ∧ Told TU u64v w' v ((allA s.A).take m)
  awk : ∀ (w : World), Below w0.heap.size w0 w → Calls Try.prog 12 #[] w fun e w' => Below w.heap.size w w' ∧ e = .returned (.bool true)
end Go.Proofs.Ytmkajdfajcodjaa
