/-
  The plain mathematics of a heap: objects that hold one another, and who goes. It speaks of no program.
-/
import Derived.Laws.Rows
namespace Go.Proofs.Ytceokibalphgpaa
open Go

/-- A link: nothing, an object, something foreign. -/
structure Lk where
  kind : Int
  h : Int
/-- An object. -/
structure Ob where
  h : Int
  outer : Int
  count : Int
  value : Int
  links : List Lk
  inners : List Int
abbrev HL := List Ob
def fnd (L : HL) (h : Int) : Option Ob := L.find? fun o => o.h == h
def whl (L : HL) (h : Int) : Option Ob := match fnd L h with
  | none => none
  | some o => if o.outer = 0 then some o else fnd L o.outer
def setc (L : HL) (h c : Int) : HL := L.map fun o => if o.h = h then { o with count := c } else o
/-- A link is let go: what is left, who begins to wait, what foreign is told. -/
def let1 (L : HL) (l : Lk) : HL × List Int × List Int :=
  if l.kind = 2 then (L, [], [l.h])
  else if l.kind = 1 then match whl L l.h with
    | none => (L, [], [])
    | some w => if w.count = 0 then (L, [], []) else (setc L w.h (w.count - 1), if w.count = 1 then [w.h] else [], [])
  else (L, [], [])
def letg : HL → List Lk → HL × List Int × List Int
  | L, [] => (L, [], [])
  | L, l :: r => ((letg (let1 L l).1 r).1, (let1 L l).2.1 ++ (letg (let1 L l).1 r).2.1, (let1 L l).2.2 ++ (letg (let1 L l).1 r).2.2)
/-- A whole goes, with its inners: what is left, their links, who goes. -/
def awa (L : HL) (h : Int) : HL × List Lk × List Int := match fnd L h with
  | none => (L, [], [])
  | some o => (L.filter fun x => !(x.h == h || o.inners.contains x.h), o.links ++ (o.inners.filterMap (fnd L)).flatMap (·.links), h :: o.inners)
/-- One behind the other they go. -/
inductive Goes : HL → List Int → HL → List Int → List Int → Prop
  | nil (L : HL) : Goes L [] L [] []
  | cons {L L' : HL} {x : Int} {ws g f : List Int} (h : Goes (letg (awa L x).1 (awa L x).2.1).1 (ws ++ (letg (awa L x).1 (awa L x).2.1).2.1) L' g f) :
      Goes L (x :: ws) L' ((awa L x).2.2 ++ g) ((letg (awa L x).1 (awa L x).2.1).2.2 ++ f)
theorem Goes.same {L L1 L2 : HL} {ws g1 g2 f1 f2 : List Int} (h : Goes L ws L1 g1 f1) : Goes L ws L2 g2 f2 → L1 = L2 ∧ g1 = g2 ∧ f1 = f2 := by
  induction h generalizing L2 g2 f2 with
  | nil => intro k; cases k; exact ⟨rfl, rfl, rfl⟩
  | cons h ih =>
    intro k
    cases k with
    | cons k =>
      obtain ⟨h1, h2, h3⟩ := ih k
      exact ⟨h1, by rw [h2], by rw [h3]⟩
theorem fnd_some {L : HL} {h : Int} {o : Ob} (e : fnd L h = some o) : o ∈ L ∧ o.h = h :=
  ⟨List.mem_of_find?_eq_some e, by simpa using List.find?_some e⟩
theorem fnd_none {L : HL} {h : Int} : fnd L h = none ↔ ∀ o ∈ L, o.h ≠ h := by
  unfold fnd
  rw [List.find?_eq_none]
  exact ⟨fun k o ho => by simpa using k o ho, fun k o ho => by simpa using k o ho⟩
/-- No two of one handle. -/
def Nd (L : HL) : Prop := (L.map (·.h)).Nodup
theorem fnd_mem {L : HL} (hn : Nd L) {o : Ob} (h : o ∈ L) : fnd L o.h = some o := by
  induction L with
  | nil => cases h
  | cons a L ih =>
    unfold fnd
    rw [List.find?_cons]
    have hn' : (a.h :: L.map (·.h)).Nodup := hn
    rw [List.nodup_cons] at hn'
    rcases List.mem_cons.1 h with rfl | h
    · simp
    · have : a.h ≠ o.h := fun e => hn'.1 (e ▸ List.mem_map.2 ⟨o, h, rfl⟩)
      have hb : (a.h == o.h) = false := by simpa using this
      rw [hb]
      exact ih hn'.2 h
theorem setc_h (L : HL) (h c : Int) : (setc L h c).map (·.h) = L.map (·.h) := by
  unfold setc
  rw [List.map_map]
  refine List.map_congr_left fun o _ => ?_
  simp only [Function.comp]
  split <;> rfl
theorem Nd.setc {L : HL} (hn : Nd L) (h c : Int) : Nd (setc L h c) := by
  unfold Nd
  rw [setc_h]
  exact hn
theorem mem_setc {L : HL} {h c : Int} {o : Ob} : o ∈ setc L h c ↔ ∃ p ∈ L, o = if p.h = h then { p with count := c } else p := by
  unfold Go.Proofs.Ytceokibalphgpaa.setc
  rw [List.mem_map]
  exact ⟨fun ⟨p, h1, h2⟩ => ⟨p, h1, h2.symm⟩, fun ⟨p, h1, h2⟩ => ⟨p, h1, h2.symm⟩⟩
end Go.Proofs.Ytceokibalphgpaa
