/-
  Heaps plainly: counts are how many hold.
-/
import Derived.Test.YtceokibalphgpaaHpF
namespace Go.Proofs.Ytceokibalphgpaa
open Go

/-- How many of the links hold h. -/
def occ (l : List Lk) (h : Int) : Int := ((l.filter fun x => x.kind == 1 && x.h == h).length : Int)
theorem occ_nil (h : Int) : occ [] h = 0 := rfl
theorem occ_cons (x : Lk) (l : List Lk) (h : Int) : occ (x :: l) h = (if x.kind = 1 ∧ x.h = h then 1 else 0) + occ l h := by
  unfold occ
  by_cases hx : x.kind = 1 ∧ x.h = h
  · rw [List.filter_cons_of_pos (by simpa using hx), if_pos hx, List.length_cons]; omega
  · rw [List.filter_cons_of_neg (by simpa using hx), if_neg hx]; omega
theorem occ_ge (l : List Lk) (h : Int) : 0 ≤ occ l h := by unfold occ; omega
theorem occ_app (l m : List Lk) (h : Int) : occ (l ++ m) h = occ l h + occ m h := by
  unfold occ
  rw [List.filter_append, List.length_append]; omega
/-- How many slots hold h. -/
def ind (L : HL) (h : Int) : Int := (L.map fun o => occ o.links h).sum
theorem ind_cons (o : Ob) (L : HL) (h : Int) : ind (o :: L) h = occ o.links h + ind L h := by simp [ind]
theorem ind_ge (L : HL) (h : Int) : 0 ≤ ind L h := by
  induction L with
  | nil => exact Int.le_refl _
  | cons o L ih => rw [ind_cons]; have := occ_ge o.links h; omega
theorem ind_app (L M : HL) (h : Int) : ind (L ++ M) h = ind L h + ind M h := by
  induction L with
  | nil => simp [ind]
  | cons o L ih => rw [List.cons_append, ind_cons, ind_cons, ih]; omega
theorem ind_links {L : HL} (f : Ob → Ob) (hf : ∀ o, (f o).links = o.links) (h : Int) : ind (L.map f) h = ind L h := by
  induction L with
  | nil => rfl
  | cons o L ih => rw [List.map_cons, ind_cons, ind_cons, hf, ih]
theorem ind_setc (L : HL) (x c h : Int) : ind (setc L x c) h = ind L h := ind_links _ (fun o => by split <;> rfl) h
theorem ind_drop {L : HL} (hn : Nd L) {o : Ob} (ho : o ∈ L) (h : Int) : ind (L.filter fun x => !(x.h == o.h)) h + occ o.links h = ind L h := by
  induction L with
  | nil => cases ho
  | cons a L ih =>
    have hn' : (a.h :: L.map (·.h)).Nodup := hn
    rw [List.nodup_cons] at hn'
    rcases List.mem_cons.1 ho with rfl | ho
    · have he : L.filter (fun x => !(x.h == o.h)) = L := List.filter_eq_self.2 fun x hx => by
        have : x.h ≠ o.h := fun e => hn'.1 (e ▸ List.mem_map.2 ⟨x, hx, rfl⟩)
        simpa using this
      rw [List.filter_cons_of_neg (by simp), he, ind_cons]; omega
    · have : a.h ≠ o.h := fun e => hn'.1 (e ▸ List.mem_map.2 ⟨o, ho, rfl⟩)
      rw [List.filter_cons_of_pos (by simpa using this), ind_cons, ind_cons]
      have := ih hn'.2 ho
      omega
theorem ind_setl {L : HL} (hn : Nd L) {o : Ob} (ho : o ∈ L) {slot : Nat} {x old : Lk} (hs : o.links[slot]? = some old) (h : Int) : ind (setl L o.h slot x) h + (if old.kind = 1 ∧ old.h = h then 1 else 0) = ind L h + (if x.kind = 1 ∧ x.h = h then 1 else 0) := by
  have hset : ∀ (l : List Lk) (i : Nat), l[i]? = some old → occ (l.set i x) h + (if old.kind = 1 ∧ old.h = h then 1 else 0) = occ l h + (if x.kind = 1 ∧ x.h = h then 1 else 0) := by
    intro l
    induction l with
    | nil => intro i hi; simp at hi
    | cons a l ih =>
      intro i hi
      cases i with
      | zero => simp at hi; subst hi; rw [List.set_cons_zero, occ_cons, occ_cons]; omega
      | succ i =>
        rw [List.set_cons_succ, occ_cons, occ_cons]
        have := ih i (by simpa using hi)
        omega
  induction L with
  | nil => cases ho
  | cons a L ih =>
    have hn' : (a.h :: L.map (·.h)).Nodup := hn
    rw [List.nodup_cons] at hn'
    have he : setl (a :: L) o.h slot x = (if a.h = o.h then { a with links := a.links.set slot x } else a) :: setl L o.h slot x := rfl
    rw [he, ind_cons, ind_cons]
    rcases List.mem_cons.1 ho with rfl | ho
    · have h1 : setl L o.h slot x = L := by
        unfold setl
        refine (List.map_congr_left fun p hp => ?_).trans (List.map_id _)
        have : p.h ≠ o.h := fun e => hn'.1 (e ▸ List.mem_map.2 ⟨p, hp, rfl⟩)
        simp [this]
      rw [h1, if_pos rfl]
      have := hset o.links slot hs
      simp only
      omega
    · have : a.h ≠ o.h := fun e => hn'.1 (e ▸ List.mem_map.2 ⟨o, ho, rfl⟩)
      rw [if_neg this]
      have := ih hn'.2 ho
      omega
/-- Counts are how many hold: those outside, the slots, and the links that are still to be let go. -/
structure CInv (out : Int → Int) (L : HL) (P : List Lk) : Prop where
  nd : Nd L
  own : ∀ o ∈ L, o.outer = 0 ∧ o.inners = [] ∧ ∀ l ∈ o.links, l.kind = 0 ∨ l.kind = 1
  pk : ∀ l ∈ P, l.kind = 0 ∨ l.kind = 1
  pos : ∀ h, 0 ≤ out h
  cnt : ∀ o ∈ L, o.count = out o.h + ind L o.h + occ P o.h
  dead : ∀ h, (∀ o ∈ L, o.h ≠ h) → out h = 0 ∧ ind L h = 0 ∧ occ P h = 0
/-- Who waits is whose count is 0. -/
structure WInv (L : HL) (ws : List Int) : Prop where
  w : ∀ o ∈ L, o.count = 0 ↔ o.h ∈ ws
  nd : ws.Nodup
  mem : ∀ x ∈ ws, ∃ o ∈ L, o.h = x
theorem CInv.let1 {out : Int → Int} {L : HL} {l : Lk} {P : List Lk} {ws : List Int} (h : CInv out L (l :: P)) (hw : WInv L ws) : CInv out (let1 L l).1 P ∧ WInv (let1 L l).1 (ws ++ (let1 L l).2.1) ∧ (let1 L l).2.2 = [] := by
  rcases h.pk l (by simp) with hk | hk
  · have e : Go.Proofs.Ytceokibalphgpaa.let1 L l = (L, [], []) := by unfold Go.Proofs.Ytceokibalphgpaa.let1; simp [hk]
    rw [e]
    have ho : ∀ x, occ (l :: P) x = occ P x := fun x => by rw [occ_cons, if_neg (by omega)]; omega
    exact ⟨⟨h.nd, h.own, fun x hx => h.pk x (by simp [hx]), h.pos, fun o ho' => by rw [← ho]; exact h.cnt o ho', fun x hx => by rw [← ho]; exact h.dead x hx⟩, by simpa using hw, rfl⟩
  · have hocc : occ (l :: P) l.h = 1 + occ P l.h := by rw [occ_cons, if_pos ⟨hk, rfl⟩]
    obtain ⟨o, ho, heq⟩ : ∃ o ∈ L, o.h = l.h := by
      rcases Classical.em (∃ o ∈ L, o.h = l.h) with h1 | h1
      · exact h1
      · have h2 := (h.dead l.h fun o ho he => h1 ⟨o, ho, he⟩).2.2
        have := occ_ge P l.h
        omega
    have hc := h.cnt o ho
    rw [heq, hocc] at hc
    have h3 := h.pos l.h
    have h4 := ind_ge L l.h
    have h5 := occ_ge P l.h
    have e : Go.Proofs.Ytceokibalphgpaa.let1 L l = (setc L o.h (o.count - 1), if o.count = 1 then [o.h] else [], []) := by
      have := let1_one h.nd ho (h.own o ho).1 (by omega)
      have el : l = ⟨1, o.h⟩ := by cases l; simp at hk heq; simp [hk, heq]
      rw [el]; exact this
    rw [e]
    have hne : ∀ x, x ≠ l.h → occ (l :: P) x = occ P x := fun x hx => by rw [occ_cons, if_neg (fun k => hx k.2.symm)]; omega
    refine ⟨⟨h.nd.setc _ _, ?_, fun x hx => h.pk x (by simp [hx]), h.pos, ?_, ?_⟩, ⟨?_, ?_, ?_⟩, rfl⟩
    · intro p hp
      obtain ⟨p0, hp0, rfl⟩ := mem_setc.1 hp
      split
      · exact h.own p0 hp0
      · exact h.own p0 hp0
    · intro p hp
      obtain ⟨p0, hp0, rfl⟩ := mem_setc.1 hp
      rw [ind_setc]
      split
      · rename_i he
        have hp0o : p0 = o := by
          have h6 := fnd_mem h.nd hp0
          rw [he, fnd_mem h.nd ho] at h6
          exact (Option.some.inj h6).symm
        subst hp0o
        simp only
        rw [heq]
        omega
      · rename_i he
        have := h.cnt p0 hp0
        rw [hne p0.h (by rw [← heq]; exact he)] at this
        exact this
    · intro x hx
      have hx' : ∀ p ∈ L, p.h ≠ x := fun p hp he => by
        refine hx (if p.h = o.h then { p with count := o.count - 1 } else p) (mem_setc.2 ⟨p, hp, rfl⟩) ?_
        split <;> exact he
      obtain ⟨d1, d2, d3⟩ := h.dead x hx'
      rw [ind_setc]
      rw [hne x (fun e => hx' o ho (by rw [heq, e]))] at d3
      exact ⟨d1, d2, d3⟩
    · intro p hp
      obtain ⟨p0, hp0, rfl⟩ := mem_setc.1 hp
      have hnw : o.h ∉ ws := fun hm => by have := (hw.w o ho).2 hm; omega
      split
      · rename_i he
        have hp0o : p0 = o := by
          have h6 := fnd_mem h.nd hp0
          rw [he, fnd_mem h.nd ho] at h6
          exact (Option.some.inj h6).symm
        subst hp0o
        by_cases h1 : p0.count = 1
        · simp [h1]
        · simp only [h1, if_false, List.append_nil]
          constructor
          · intro h2; omega
          · intro h2; exact absurd h2 hnw
      · rename_i he
        rw [hw.w p0 hp0]
        by_cases h1 : o.count = 1
        · simp [h1, he]
        · simp [h1]
    · have hnw : o.h ∉ ws := fun hm => by have := (hw.w o ho).2 hm; omega
      split
      · rw [List.nodup_append]
        exact ⟨hw.nd, by simp, fun a ha b hb e => by simp at hb; subst hb; subst e; exact hnw ha⟩
      · simpa using hw.nd
    · intro x hx
      rcases List.mem_append.1 hx with hx | hx
      · obtain ⟨p, hp, rfl⟩ := hw.mem x hx
        refine ⟨_, mem_setc.2 ⟨p, hp, rfl⟩, ?_⟩
        split <;> rfl
      · split at hx
        · simp at hx
          refine ⟨_, mem_setc.2 ⟨o, ho, rfl⟩, ?_⟩
          simp [hx]
        · cases hx
theorem CInv.letg {out : Int → Int} : ∀ {P : List Lk} {L : HL} {ws : List Int}, CInv out L P → WInv L ws → CInv out (letg L P).1 [] ∧ WInv (letg L P).1 (ws ++ (letg L P).2.1) ∧ (letg L P).2.2 = []
  | [], L, ws, h, hw => ⟨h, by simpa [Go.Proofs.Ytceokibalphgpaa.letg] using hw, rfl⟩
  | l :: P, L, ws, h, hw => by
    obtain ⟨h1, h2, h3⟩ := h.let1 hw
    obtain ⟨h4, h5, h6⟩ := CInv.letg h1 h2
    unfold Go.Proofs.Ytceokibalphgpaa.letg
    exact ⟨h4, by rw [← List.append_assoc]; exact h5, by rw [h3, h6]; rfl⟩
theorem CInv.goes {out : Int → Int} {L L' : HL} {ws g f : List Int} (hg : Goes L ws L' g f) : CInv out L [] → WInv L ws → CInv out L' [] ∧ WInv L' [] ∧ f = [] := by
  induction hg with
  | nil L => exact fun h hw => ⟨h, hw, rfl⟩
  | @cons L L' x ws g f hg ih =>
    intro h hw
    obtain ⟨o, ho, rfl⟩ := hw.mem x (by simp)
    have ha := awa_own h.nd ho (h.own o ho).2.1
    have hc0 := (hw.w o ho).2 (by simp)
    have hc := h.cnt o ho
    rw [occ_nil, hc0] at hc
    have h3 := h.pos o.h
    have h4 := ind_ge L o.h
    rw [ha] at hg ih ⊢
    simp only at hg ih ⊢
    have hwn := hw.nd
    rw [List.nodup_cons] at hwn
    have h5 : CInv out (L.filter fun x => !(x.h == o.h)) o.links := by
      refine ⟨h.nd.sublist (List.Sublist.map _ (List.filter_sublist ..)), fun p hp => h.own p (List.mem_filter.1 hp).1, (h.own o ho).2.2, h.pos, fun p hp => ?_, fun y hy => ?_⟩
      · have := h.cnt p (List.mem_filter.1 hp).1
        have h6 := ind_drop h.nd ho p.h
        rw [occ_nil] at this
        omega
      · have h6 := ind_drop h.nd ho y
        have h7 := ind_ge (L.filter fun x => !(x.h == o.h)) y
        have h8 := occ_ge o.links y
        by_cases hyo : y = o.h
        · subst hyo
          exact ⟨by omega, by omega, by omega⟩
        · have := h.dead y fun p hp he => hy p (List.mem_filter.2 ⟨hp, by simpa [he] using hyo⟩) he
          exact ⟨this.1, by omega, by omega⟩
    have h6 : WInv (L.filter fun x => !(x.h == o.h)) ws := by
      refine ⟨fun p hp => ?_, hwn.2, fun y hy => ?_⟩
      · obtain ⟨hp1, hp2⟩ := List.mem_filter.1 hp
        rw [hw.w p hp1]
        have : p.h ≠ o.h := by simpa using hp2
        simp [this]
      · obtain ⟨p, hp, rfl⟩ := hw.mem y (by simp [hy])
        refine ⟨p, List.mem_filter.2 ⟨hp, ?_⟩, rfl⟩
        have : p.h ≠ o.h := fun e => hwn.1 (e ▸ hy)
        simpa using this
    obtain ⟨h7, h8, h9⟩ := h5.letg h6
    obtain ⟨i1, i2, i3⟩ := ih h7 h8
    exact ⟨i1, i2, by rw [h9, i3]; rfl⟩
theorem winv_nil {L : HL} (hp : ∀ o ∈ L, o.count ≠ 0) : WInv L [] := ⟨fun o ho => ⟨fun h => absurd h (hp o ho), fun h => by cases h⟩, by simp, fun x hx => by cases hx⟩
theorem WInv.pos {L : HL} (h : WInv L []) : ∀ o ∈ L, o.count ≠ 0 := fun o ho hc => by
  have := (h.w o ho).1 hc
  cases this
end Go.Proofs.Ytceokibalphgpaa
