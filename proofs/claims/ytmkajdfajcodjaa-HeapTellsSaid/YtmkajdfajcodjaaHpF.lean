/- HpM HpF in one -/
import Derived.Laws.Rows
namespace Go.Proofs.Ytmkajdfajcodjaa
open Go

/-- A link: nothing, an object, something foreign. -/
structure Lk where
  kind : Int
  h : Int
/-- An object. -/
structure Ob where
  h : Int
  outer : Int
  count : Int
  value : Int
  links : List Lk
  inners : List Int
abbrev HL := List Ob
def fnd (L : HL) (h : Int) : Option Ob := L.find? fun o => o.h == h
def whl (L : HL) (h : Int) : Option Ob := match fnd L h with
  | none => none
  | some o => if o.outer = 0 then some o else fnd L o.outer
def setc (L : HL) (h c : Int) : HL := L.map fun o => if o.h = h then { o with count := c } else o
/-- A link is let go: what is left, who begins to wait, what foreign is told. -/
def let1 (L : HL) (l : Lk) : HL × List Int × List Int :=
  if l.kind = 2 then (L, [], [l.h])
  else if l.kind = 1 then match whl L l.h with
    | none => (L, [], [])
    | some w => if w.count = 0 then (L, [], []) else (setc L w.h (w.count - 1), if w.count = 1 then [w.h] else [], [])
  else (L, [], [])
def letg : HL → List Lk → HL × List Int × List Int
  | L, [] => (L, [], [])
  | L, l :: r => ((letg (let1 L l).1 r).1, (let1 L l).2.1 ++ (letg (let1 L l).1 r).2.1, (let1 L l).2.2 ++ (letg (let1 L l).1 r).2.2)
/-- A whole goes, with its inners: what is left, their links, who goes. -/
def awa (L : HL) (h : Int) : HL × List Lk × List Int := match fnd L h with
  | none => (L, [], [])
  | some o => (L.filter fun x => !(x.h == h || o.inners.contains x.h), o.links ++ (o.inners.filterMap (fnd L)).flatMap (·.links), h :: o.inners)
/-- One behind the other they go. -/
inductive Goes : HL → List Int → HL → List Int → List Int → Prop
  | nil (L : HL) : Goes L [] L [] []
  | cons {L L' : HL} {x : Int} {ws g f : List Int} (h : Goes (letg (awa L x).1 (awa L x).2.1).1 (ws ++ (letg (awa L x).1 (awa L x).2.1).2.1) L' g f) :
      Goes L (x :: ws) L' ((awa L x).2.2 ++ g) ((letg (awa L x).1 (awa L x).2.1).2.2 ++ f)
theorem Goes.same {L L1 L2 : HL} {ws g1 g2 f1 f2 : List Int} (h : Goes L ws L1 g1 f1) : Goes L ws L2 g2 f2 → L1 = L2 ∧ g1 = g2 ∧ f1 = f2 := by
  induction h generalizing L2 g2 f2 with
  | nil => intro k; cases k; exact ⟨rfl, rfl, rfl⟩
  | cons h ih =>
    intro k
    cases k with
    | cons k =>
      obtain ⟨h1, h2, h3⟩ := ih k
      exact ⟨h1, by rw [h2], by rw [h3]⟩
theorem fnd_some {L : HL} {h : Int} {o : Ob} (e : fnd L h = some o) : o ∈ L ∧ o.h = h :=
  ⟨List.mem_of_find?_eq_some e, by simpa using List.find?_some e⟩
theorem fnd_none {L : HL} {h : Int} : fnd L h = none ↔ ∀ o ∈ L, o.h ≠ h := by
  unfold fnd
  rw [List.find?_eq_none]
  exact ⟨fun k o ho => by simpa using k o ho, fun k o ho => by simpa using k o ho⟩
/-- No two of one handle. -/
def Nd (L : HL) : Prop := (L.map (·.h)).Nodup
theorem fnd_mem {L : HL} (hn : Nd L) {o : Ob} (h : o ∈ L) : fnd L o.h = some o := by
  induction L with
  | nil => cases h
  | cons a L ih =>
    unfold fnd
    rw [List.find?_cons]
    have hn' : (a.h :: L.map (·.h)).Nodup := hn
    rw [List.nodup_cons] at hn'
    rcases List.mem_cons.1 h with rfl | h
    · simp
    · have : a.h ≠ o.h := fun e => hn'.1 (e ▸ List.mem_map.2 ⟨o, h, rfl⟩)
      have hb : (a.h == o.h) = false := by simpa using this
      rw [hb]
      exact ih hn'.2 h
theorem setc_h (L : HL) (h c : Int) : (setc L h c).map (·.h) = L.map (·.h) := by
  unfold setc
  rw [List.map_map]
  refine List.map_congr_left fun o _ => ?_
  simp only [Function.comp]
  split <;> rfl
theorem Nd.setc {L : HL} (hn : Nd L) (h c : Int) : Nd (setc L h c) := by
  unfold Nd
  rw [setc_h]
  exact hn
theorem mem_setc {L : HL} {h c : Int} {o : Ob} : o ∈ setc L h c ↔ ∃ p ∈ L, o = if p.h = h then { p with count := c } else p := by
  unfold Go.Proofs.Ytmkajdfajcodjaa.setc
  rw [List.mem_map]
  exact ⟨fun ⟨p, h1, h2⟩ => ⟨p, h1, h2.symm⟩, fun ⟨p, h1, h2⟩ => ⟨p, h1, h2.symm⟩⟩
end Go.Proofs.Ytmkajdfajcodjaa

namespace Go.Proofs.Ytmkajdfajcodjaa
open Go

/-- An object is let go of. -/
def Dn (L : HL) (h : Int) (L' : HL) (g f : List Int) : Prop := ∃ f2, Goes (letg L [⟨1, h⟩]).1 (letg L [⟨1, h⟩]).2.1 L' g f2 ∧ f = (letg L [⟨1, h⟩]).2.2 ++ f2
/-- A link is laid into a slot. -/
def setl (L : HL) (h : Int) (slot : Nat) (x : Lk) : HL := L.map fun o => if o.h = h then { o with links := o.links.set slot x } else o
/-- .. and what was there is let go. -/
def Pu (L : HL) (h : Int) (slot : Nat) (x old : Lk) (L' : HL) (g f : List Int) : Prop := ∃ f2, Goes (letg (setl L h slot x) [old]).1 (letg (setl L h slot x) [old]).2.1 L' g f2 ∧ f = (letg (setl L h slot x) [old]).2.2 ++ f2
def fors (l : List Lk) : List Int := (l.filter (·.kind == 2)).map (·.h)
theorem letg_for {L : HL} : ∀ {l : List Lk}, (∀ x ∈ l, x.kind ≠ 1) → letg L l = (L, [], fors l)
  | [], _ => rfl
  | x :: r, h => by
    have hx := h x (by simp)
    have ih := letg_for (L := L) (l := r) fun y hy => h y (List.mem_cons_of_mem _ hy)
    unfold letg let1
    by_cases h2 : x.kind = 2
    · simp [h2, ih, fors]
    · simp [h2, hx, ih, fors]
theorem setl_h (L : HL) (h : Int) (slot : Nat) (x : Lk) : (setl L h slot x).map (·.h) = L.map (·.h) := by
  unfold setl
  rw [List.map_map]
  refine List.map_congr_left fun o _ => ?_
  simp only [Function.comp]
  split <;> rfl
theorem mem_setl {L : HL} {h : Int} {slot : Nat} {x : Lk} {o : Ob} : o ∈ setl L h slot x ↔ ∃ p ∈ L, o = if p.h = h then { p with links := p.links.set slot x } else p := by
  unfold setl
  rw [List.mem_map]
  exact ⟨fun ⟨p, h1, h2⟩ => ⟨p, h1, h2.symm⟩, fun ⟨p, h1, h2⟩ => ⟨p, h1, h2.symm⟩⟩
theorem whl_self {L : HL} (hn : Nd L) {o : Ob} (h : o ∈ L) (h0 : o.outer = 0) : whl L o.h = some o := by
  unfold whl
  rw [fnd_mem hn h]
  simp [h0]
theorem let1_one {L : HL} (hn : Nd L) {o : Ob} (h : o ∈ L) (h0 : o.outer = 0) (hc : o.count ≠ 0) : let1 L ⟨1, o.h⟩ = (setc L o.h (o.count - 1), if o.count = 1 then [o.h] else [], []) := by
  unfold let1
  simp [whl_self hn h h0, hc]
theorem letg_one (L : HL) (x : Lk) : letg L [x] = let1 L x := by
  unfold letg
  simp [letg]
/-- Objects of their own, that hold no objects. -/
structure ForOk (L : HL) : Prop where
  nd : Nd L
  all : ∀ o ∈ L, o.outer = 0 ∧ o.inners = [] ∧ o.count = 1 ∧ ∀ l ∈ o.links, l.kind = 0 ∨ l.kind = 2
theorem awa_own {L : HL} (hn : Nd L) {o : Ob} (h : o ∈ L) (hi : o.inners = []) : awa L o.h = (L.filter fun x => !(x.h == o.h), o.links, [o.h]) := by
  unfold awa
  rw [fnd_mem hn h]
  simp [hi]
theorem filter_setc (L : HL) (h c : Int) : (setc L h c).filter (fun x => !(x.h == h)) = L.filter fun x => !(x.h == h) := by
  induction L with
  | nil => rfl
  | cons a L ih =>
    unfold setc at ih ⊢
    rw [List.map_cons]
    by_cases ha : a.h = h
    · simp [ha] at ih ⊢
      exact ih
    · simp [ha] at ih ⊢
      exact ih
theorem dn_for {L L' : HL} (hL : ForOk L) {o : Ob} (h : o ∈ L) {g f : List Int} (hd : Dn L o.h L' g f) : L' = L.filter (fun x => !(x.h == o.h)) ∧ g = [o.h] ∧ f = fors o.links := by
  obtain ⟨h0, hi, hc, hk⟩ := hL.all o h
  obtain ⟨f2, hg, hf⟩ := hd
  rw [letg_one, let1_one hL.nd h h0 (by omega)] at hg hf
  simp only [hc, Int.sub_self, if_true] at hg hf
  have hm : { o with count := 0 } ∈ setc L o.h 0 := mem_setc.2 ⟨o, h, by simp⟩
  have ha : awa (setc L o.h 0) o.h = (L.filter (fun x => !(x.h == o.h)), o.links, [o.h]) := by
    have := awa_own (hL.nd.setc o.h 0) hm hi
    rw [filter_setc] at this
    exact this
  have hkk : letg (L.filter fun x => !(x.h == o.h)) o.links = (L.filter (fun x => !(x.h == o.h)), [], fors o.links) := letg_for fun x hx => by
    rcases hk x hx with e | e <;> omega
  have he : Goes (setc L o.h 0) [o.h] (L.filter fun x => !(x.h == o.h)) ([o.h] ++ []) (fors o.links ++ []) := by
    have h1 : Goes (letg (awa (setc L o.h 0) o.h).1 (awa (setc L o.h 0) o.h).2.1).1 ([] ++ (letg (awa (setc L o.h 0) o.h).1 (awa (setc L o.h 0) o.h).2.1).2.1) (L.filter fun x => !(x.h == o.h)) [] [] := by
      rw [ha]
      simp only [hkk]
      exact Goes.nil _
    have h2 := Goes.cons (x := o.h) h1
    rw [ha] at h2
    simp only [hkk] at h2
    exact h2
  obtain ⟨e1, e2, e3⟩ := hg.same he
  exact ⟨e1, by simpa using e2, by rw [hf, e3]; simp⟩
theorem pu_for {L L' : HL} {h : Int} {slot : Nat} {x old : Lk} (ho : old.kind ≠ 1) {g f : List Int} (hp : Pu L h slot x old L' g f) : L' = setl L h slot x ∧ g = [] ∧ f = fors [old] := by
  obtain ⟨f2, hg, hf⟩ := hp
  have hl := letg_for (L := setl L h slot x) (l := [old]) fun y hy => by rw [List.mem_singleton.1 hy]; exact ho
  rw [hl] at hg hf
  obtain ⟨e1, e2, e3⟩ := hg.same (Goes.nil _)
  exact ⟨e1, e2, by rw [hf, e3]; simp⟩
/-- How much foreign is held. -/
def ftot (L : HL) : Nat := (L.map fun o => (fors o.links).length).sum
theorem ForOk.drop {L : HL} (hL : ForOk L) (h : Int) : ForOk (L.filter fun x => !(x.h == h)) :=
  ⟨hL.nd.sublist (List.Sublist.map _ (List.filter_sublist ..)), fun o ho => hL.all o (List.mem_filter.1 ho).1⟩
theorem ftot_drop {L : HL} (hn : Nd L) {o : Ob} (h : o ∈ L) : ftot (L.filter fun x => !(x.h == o.h)) + (fors o.links).length = ftot L := by
  induction L with
  | nil => cases h
  | cons a L ih =>
    have hn' : (a.h :: L.map (·.h)).Nodup := hn
    rw [List.nodup_cons] at hn'
    rcases List.mem_cons.1 h with rfl | h
    · have he : L.filter (fun x => !(x.h == o.h)) = L := List.filter_eq_self.2 fun x hx => by
        have : x.h ≠ o.h := fun e => hn'.1 (e ▸ List.mem_map.2 ⟨x, hx, rfl⟩)
        simpa using this
      rw [List.filter_cons_of_neg (by simp), he]
      simp [ftot, Nat.add_comm]
    · have : a.h ≠ o.h := fun e => hn'.1 (e ▸ List.mem_map.2 ⟨o, h, rfl⟩)
      rw [List.filter_cons_of_pos (by simpa using this)]
      have := ih hn'.2 h
      simp only [ftot, List.map_cons, List.sum_cons] at this ⊢
      omega
end Go.Proofs.Ytmkajdfajcodjaa
