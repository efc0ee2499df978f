/-
  Heaps plainly: letting go of an object, laying a link; objects that hold nobody.
-/
import Derived.Test.YtceokibalphgpaaHpM
namespace Go.Proofs.Ytceokibalphgpaa
open Go

/-- An object is let go of. -/
def Dn (L : HL) (h : Int) (L' : HL) (g f : List Int) : Prop := ∃ f2, Goes (letg L [⟨1, h⟩]).1 (letg L [⟨1, h⟩]).2.1 L' g f2 ∧ f = (letg L [⟨1, h⟩]).2.2 ++ f2
/-- A link is laid into a slot. -/
def setl (L : HL) (h : Int) (slot : Nat) (x : Lk) : HL := L.map fun o => if o.h = h then { o with links := o.links.set slot x } else o
/-- .. and what was there is let go. -/
def Pu (L : HL) (h : Int) (slot : Nat) (x old : Lk) (L' : HL) (g f : List Int) : Prop := ∃ f2, Goes (letg (setl L h slot x) [old]).1 (letg (setl L h slot x) [old]).2.1 L' g f2 ∧ f = (letg (setl L h slot x) [old]).2.2 ++ f2
def fors (l : List Lk) : List Int := (l.filter (·.kind == 2)).map (·.h)
theorem letg_for {L : HL} : ∀ {l : List Lk}, (∀ x ∈ l, x.kind ≠ 1) → letg L l = (L, [], fors l)
  | [], _ => rfl
  | x :: r, h => by
    have hx := h x (by simp)
    have ih := letg_for (L := L) (l := r) fun y hy => h y (List.mem_cons_of_mem _ hy)
    unfold letg let1
    by_cases h2 : x.kind = 2
    · simp [h2, ih, fors]
    · simp [h2, hx, ih, fors]
theorem setl_h (L : HL) (h : Int) (slot : Nat) (x : Lk) : (setl L h slot x).map (·.h) = L.map (·.h) := by
  unfold setl
  rw [List.map_map]
  refine List.map_congr_left fun o _ => ?_
  simp only [Function.comp]
  split <;> rfl
theorem mem_setl {L : HL} {h : Int} {slot : Nat} {x : Lk} {o : Ob} : o ∈ setl L h slot x ↔ ∃ p ∈ L, o = if p.h = h then { p with links := p.links.set slot x } else p := by
  unfold setl
  rw [List.mem_map]
  exact ⟨fun ⟨p, h1, h2⟩ => ⟨p, h1, h2.symm⟩, fun ⟨p, h1, h2⟩ => ⟨p, h1, h2.symm⟩⟩
theorem whl_self {L : HL} (hn : Nd L) {o : Ob} (h : o ∈ L) (h0 : o.outer = 0) : whl L o.h = some o := by
  unfold whl
  rw [fnd_mem hn h]
  simp [h0]
theorem let1_one {L : HL} (hn : Nd L) {o : Ob} (h : o ∈ L) (h0 : o.outer = 0) (hc : o.count ≠ 0) : let1 L ⟨1, o.h⟩ = (setc L o.h (o.count - 1), if o.count = 1 then [o.h] else [], []) := by
  unfold let1
  simp [whl_self hn h h0, hc]
theorem letg_one (L : HL) (x : Lk) : letg L [x] = let1 L x := by
  unfold letg
  simp [letg]
/-- Objects of their own, that hold no objects. -/
structure ForOk (L : HL) : Prop where
  nd : Nd L
  all : ∀ o ∈ L, o.outer = 0 ∧ o.inners = [] ∧ o.count = 1 ∧ ∀ l ∈ o.links, l.kind = 0 ∨ l.kind = 2
theorem awa_own {L : HL} (hn : Nd L) {o : Ob} (h : o ∈ L) (hi : o.inners = []) : awa L o.h = (L.filter fun x => !(x.h == o.h), o.links, [o.h]) := by
  unfold awa
  rw [fnd_mem hn h]
  simp [hi]
theorem filter_setc (L : HL) (h c : Int) : (setc L h c).filter (fun x => !(x.h == h)) = L.filter fun x => !(x.h == h) := by
  induction L with
  | nil => rfl
  | cons a L ih =>
    unfold setc at ih ⊢
    rw [List.map_cons]
    by_cases ha : a.h = h
    · simp [ha] at ih ⊢
      exact ih
    · simp [ha] at ih ⊢
      exact ih
theorem dn_for {L L' : HL} (hL : ForOk L) {o : Ob} (h : o ∈ L) {g f : List Int} (hd : Dn L o.h L' g f) : L' = L.filter (fun x => !(x.h == o.h)) ∧ g = [o.h] ∧ f = fors o.links := by
  obtain ⟨h0, hi, hc, hk⟩ := hL.all o h
  obtain ⟨f2, hg, hf⟩ := hd
  rw [letg_one, let1_one hL.nd h h0 (by omega)] at hg hf
  simp only [hc, Int.sub_self, if_true] at hg hf
  have hm : { o with count := 0 } ∈ setc L o.h 0 := mem_setc.2 ⟨o, h, by simp⟩
  have ha : awa (setc L o.h 0) o.h = (L.filter (fun x => !(x.h == o.h)), o.links, [o.h]) := by
    have := awa_own (hL.nd.setc o.h 0) hm hi
    rw [filter_setc] at this
    exact this
  have hkk : letg (L.filter fun x => !(x.h == o.h)) o.links = (L.filter (fun x => !(x.h == o.h)), [], fors o.links) := letg_for fun x hx => by
    rcases hk x hx with e | e <;> omega
  have he : Goes (setc L o.h 0) [o.h] (L.filter fun x => !(x.h == o.h)) ([o.h] ++ []) (fors o.links ++ []) := by
    have h1 : Goes (letg (awa (setc L o.h 0) o.h).1 (awa (setc L o.h 0) o.h).2.1).1 ([] ++ (letg (awa (setc L o.h 0) o.h).1 (awa (setc L o.h 0) o.h).2.1).2.1) (L.filter fun x => !(x.h == o.h)) [] [] := by
      rw [ha]
      simp only [hkk]
      exact Goes.nil _
    have h2 := Goes.cons (x := o.h) h1
    rw [ha] at h2
    simp only [hkk] at h2
    exact h2
  obtain ⟨e1, e2, e3⟩ := hg.same he
  exact ⟨e1, by simpa using e2, by rw [hf, e3]; simp⟩
theorem pu_for {L L' : HL} {h : Int} {slot : Nat} {x old : Lk} (ho : old.kind ≠ 1) {g f : List Int} (hp : Pu L h slot x old L' g f) : L' = setl L h slot x ∧ g = [] ∧ f = fors [old] := by
  obtain ⟨f2, hg, hf⟩ := hp
  have hl := letg_for (L := setl L h slot x) (l := [old]) fun y hy => by rw [List.mem_singleton.1 hy]; exact ho
  rw [hl] at hg hf
  obtain ⟨e1, e2, e3⟩ := hg.same (Goes.nil _)
  exact ⟨e1, e2, by rw [hf, e3]; simp⟩
/-- How much foreign is held. -/
def ftot (L : HL) : Nat := (L.map fun o => (fors o.links).length).sum
theorem ForOk.drop {L : HL} (hL : ForOk L) (h : Int) : ForOk (L.filter fun x => !(x.h == h)) :=
  ⟨hL.nd.sublist (List.Sublist.map _ (List.filter_sublist ..)), fun o ho => hL.all o (List.mem_filter.1 ho).1⟩
theorem ftot_drop {L : HL} (hn : Nd L) {o : Ob} (h : o ∈ L) : ftot (L.filter fun x => !(x.h == o.h)) + (fors o.links).length = ftot L := by
  induction L with
  | nil => cases h
  | cons a L ih =>
    have hn' : (a.h :: L.map (·.h)).Nodup := hn
    rw [List.nodup_cons] at hn'
    rcases List.mem_cons.1 h with rfl | h
    · have he : L.filter (fun x => !(x.h == o.h)) = L := List.filter_eq_self.2 fun x hx => by
        have : x.h ≠ o.h := fun e => hn'.1 (e ▸ List.mem_map.2 ⟨x, hx, rfl⟩)
        simpa using this
      rw [List.filter_cons_of_neg (by simp), he]
      simp [ftot, Nat.add_comm]
    · have : a.h ≠ o.h := fun e => hn'.1 (e ▸ List.mem_map.2 ⟨o, h, rfl⟩)
      rw [List.filter_cons_of_pos (by simpa using this)]
      have := ih hn'.2 h
      simp only [ftot, List.map_cons, List.sum_cons] at this ⊢
      omega
end Go.Proofs.Ytceokibalphgpaa
