/- HpK HpL in one -/
import Derived.Test.YtmkajdfajcodjaaHpF
namespace Go.Proofs.Ytmkajdfajcodjaa
open Go

/-- How many of the links hold h. -/
def occ (l : List Lk) (h : Int) : Int := ((l.filter fun x => x.kind == 1 && x.h == h).length : Int)
theorem occ_nil (h : Int) : occ [] h = 0 := rfl
theorem occ_cons (x : Lk) (l : List Lk) (h : Int) : occ (x :: l) h = (if x.kind = 1 ∧ x.h = h then 1 else 0) + occ l h := by
  unfold occ
  by_cases hx : x.kind = 1 ∧ x.h = h
  · rw [List.filter_cons_of_pos (by simpa using hx), if_pos hx, List.length_cons]; omega
  · rw [List.filter_cons_of_neg (by simpa using hx), if_neg hx]; omega
theorem occ_ge (l : List Lk) (h : Int) : 0 ≤ occ l h := by unfold occ; omega
theorem occ_app (l m : List Lk) (h : Int) : occ (l ++ m) h = occ l h + occ m h := by
  unfold occ
  rw [List.filter_append, List.length_append]; omega
/-- How many slots hold h. -/
def ind (L : HL) (h : Int) : Int := (L.map fun o => occ o.links h).sum
theorem ind_cons (o : Ob) (L : HL) (h : Int) : ind (o :: L) h = occ o.links h + ind L h := by simp [ind]
theorem ind_ge (L : HL) (h : Int) : 0 ≤ ind L h := by
  induction L with
  | nil => exact Int.le_refl _
  | cons o L ih => rw [ind_cons]; have := occ_ge o.links h; omega
theorem ind_app (L M : HL) (h : Int) : ind (L ++ M) h = ind L h + ind M h := by
  induction L with
  | nil => simp [ind]
  | cons o L ih => rw [List.cons_append, ind_cons, ind_cons, ih]; omega
theorem ind_links {L : HL} (f : Ob → Ob) (hf : ∀ o, (f o).links = o.links) (h : Int) : ind (L.map f) h = ind L h := by
  induction L with
  | nil => rfl
  | cons o L ih => rw [List.map_cons, ind_cons, ind_cons, hf, ih]
theorem ind_setc (L : HL) (x c h : Int) : ind (setc L x c) h = ind L h := ind_links _ (fun o => by split <;> rfl) h
theorem ind_drop {L : HL} (hn : Nd L) {o : Ob} (ho : o ∈ L) (h : Int) : ind (L.filter fun x => !(x.h == o.h)) h + occ o.links h = ind L h := by
  induction L with
  | nil => cases ho
  | cons a L ih =>
    have hn' : (a.h :: L.map (·.h)).Nodup := hn
    rw [List.nodup_cons] at hn'
    rcases List.mem_cons.1 ho with rfl | ho
    · have he : L.filter (fun x => !(x.h == o.h)) = L := List.filter_eq_self.2 fun x hx => by
        have : x.h ≠ o.h := fun e => hn'.1 (e ▸ List.mem_map.2 ⟨x, hx, rfl⟩)
        simpa using this
      rw [List.filter_cons_of_neg (by simp), he, ind_cons]; omega
    · have : a.h ≠ o.h := fun e => hn'.1 (e ▸ List.mem_map.2 ⟨o, ho, rfl⟩)
      rw [List.filter_cons_of_pos (by simpa using this), ind_cons, ind_cons]
      have := ih hn'.2 ho
      omega
theorem ind_setl {L : HL} (hn : Nd L) {o : Ob} (ho : o ∈ L) {slot : Nat} {x old : Lk} (hs : o.links[slot]? = some old) (h : Int) : ind (setl L o.h slot x) h + (if old.kind = 1 ∧ old.h = h then 1 else 0) = ind L h + (if x.kind = 1 ∧ x.h = h then 1 else 0) := by
  have hset : ∀ (l : List Lk) (i : Nat), l[i]? = some old → occ (l.set i x) h + (if old.kind = 1 ∧ old.h = h then 1 else 0) = occ l h + (if x.kind = 1 ∧ x.h = h then 1 else 0) := by
    intro l
    induction l with
    | nil => intro i hi; simp at hi
    | cons a l ih =>
      intro i hi
      cases i with
      | zero => simp at hi; subst hi; rw [List.set_cons_zero, occ_cons, occ_cons]; omega
      | succ i =>
        rw [List.set_cons_succ, occ_cons, occ_cons]
        have := ih i (by simpa using hi)
        omega
  induction L with
  | nil => cases ho
  | cons a L ih =>
    have hn' : (a.h :: L.map (·.h)).Nodup := hn
    rw [List.nodup_cons] at hn'
    have he : setl (a :: L) o.h slot x = (if a.h = o.h then { a with links := a.links.set slot x } else a) :: setl L o.h slot x := rfl
    rw [he, ind_cons, ind_cons]
    rcases List.mem_cons.1 ho with rfl | ho
    · have h1 : setl L o.h slot x = L := by
        unfold setl
        refine (List.map_congr_left fun p hp => ?_).trans (List.map_id _)
        have : p.h ≠ o.h := fun e => hn'.1 (e ▸ List.mem_map.2 ⟨p, hp, rfl⟩)
        simp [this]
      rw [h1, if_pos rfl]
      have := hset o.links slot hs
      simp only
      omega
    · have : a.h ≠ o.h := fun e => hn'.1 (e ▸ List.mem_map.2 ⟨o, ho, rfl⟩)
      rw [if_neg this]
      have := ih hn'.2 ho
      omega
/-- Counts are how many hold: those outside, the slots, and the links that are still to be let go. -/
structure CInv (out : Int → Int) (L : HL) (P : List Lk) : Prop where
  nd : Nd L
  own : ∀ o ∈ L, o.outer = 0 ∧ o.inners = [] ∧ ∀ l ∈ o.links, l.kind = 0 ∨ l.kind = 1
  pk : ∀ l ∈ P, l.kind = 0 ∨ l.kind = 1
  pos : ∀ h, 0 ≤ out h
  cnt : ∀ o ∈ L, o.count = out o.h + ind L o.h + occ P o.h
  dead : ∀ h, (∀ o ∈ L, o.h ≠ h) → out h = 0 ∧ ind L h = 0 ∧ occ P h = 0
/-- Who waits is whose count is 0. -/
structure WInv (L : HL) (ws : List Int) : Prop where
  w : ∀ o ∈ L, o.count = 0 ↔ o.h ∈ ws
  nd : ws.Nodup
  mem : ∀ x ∈ ws, ∃ o ∈ L, o.h = x
theorem CInv.let1 {out : Int → Int} {L : HL} {l : Lk} {P : List Lk} {ws : List Int} (h : CInv out L (l :: P)) (hw : WInv L ws) : CInv out (let1 L l).1 P ∧ WInv (let1 L l).1 (ws ++ (let1 L l).2.1) ∧ (let1 L l).2.2 = [] := by
  rcases h.pk l (by simp) with hk | hk
  · have e : Go.Proofs.Ytmkajdfajcodjaa.let1 L l = (L, [], []) := by unfold Go.Proofs.Ytmkajdfajcodjaa.let1; simp [hk]
    rw [e]
    have ho : ∀ x, occ (l :: P) x = occ P x := fun x => by rw [occ_cons, if_neg (by omega)]; omega
    exact ⟨⟨h.nd, h.own, fun x hx => h.pk x (by simp [hx]), h.pos, fun o ho' => by rw [← ho]; exact h.cnt o ho', fun x hx => by rw [← ho]; exact h.dead x hx⟩, by simpa using hw, rfl⟩
  · have hocc : occ (l :: P) l.h = 1 + occ P l.h := by rw [occ_cons, if_pos ⟨hk, rfl⟩]
    obtain ⟨o, ho, heq⟩ : ∃ o ∈ L, o.h = l.h := by
      rcases Classical.em (∃ o ∈ L, o.h = l.h) with h1 | h1
      · exact h1
      · have h2 := (h.dead l.h fun o ho he => h1 ⟨o, ho, he⟩).2.2
        have := occ_ge P l.h
        omega
    have hc := h.cnt o ho
    rw [heq, hocc] at hc
    have h3 := h.pos l.h
    have h4 := ind_ge L l.h
    have h5 := occ_ge P l.h
    have e : Go.Proofs.Ytmkajdfajcodjaa.let1 L l = (setc L o.h (o.count - 1), if o.count = 1 then [o.h] else [], []) := by
      have := let1_one h.nd ho (h.own o ho).1 (by omega)
      have el : l = ⟨1, o.h⟩ := by cases l; simp at hk heq; simp [hk, heq]
      rw [el]; exact this
    rw [e]
    have hne : ∀ x, x ≠ l.h → occ (l :: P) x = occ P x := fun x hx => by rw [occ_cons, if_neg (fun k => hx k.2.symm)]; omega
    refine ⟨⟨h.nd.setc _ _, ?_, fun x hx => h.pk x (by simp [hx]), h.pos, ?_, ?_⟩, ⟨?_, ?_, ?_⟩, rfl⟩
    · intro p hp
      obtain ⟨p0, hp0, rfl⟩ := mem_setc.1 hp
      split
      · exact h.own p0 hp0
      · exact h.own p0 hp0
    · intro p hp
      obtain ⟨p0, hp0, rfl⟩ := mem_setc.1 hp
      rw [ind_setc]
      split
      · rename_i he
        have hp0o : p0 = o := by
          have h6 := fnd_mem h.nd hp0
          rw [he, fnd_mem h.nd ho] at h6
          exact (Option.some.inj h6).symm
        subst hp0o
        simp only
        rw [heq]
        omega
      · rename_i he
        have := h.cnt p0 hp0
        rw [hne p0.h (by rw [← heq]; exact he)] at this
        exact this
    · intro x hx
      have hx' : ∀ p ∈ L, p.h ≠ x := fun p hp he => by
        refine hx (if p.h = o.h then { p with count := o.count - 1 } else p) (mem_setc.2 ⟨p, hp, rfl⟩) ?_
        split <;> exact he
      obtain ⟨d1, d2, d3⟩ := h.dead x hx'
      rw [ind_setc]
      rw [hne x (fun e => hx' o ho (by rw [heq, e]))] at d3
      exact ⟨d1, d2, d3⟩
    · intro p hp
      obtain ⟨p0, hp0, rfl⟩ := mem_setc.1 hp
      have hnw : o.h ∉ ws := fun hm => by have := (hw.w o ho).2 hm; omega
      split
      · rename_i he
        have hp0o : p0 = o := by
          have h6 := fnd_mem h.nd hp0
          rw [he, fnd_mem h.nd ho] at h6
          exact (Option.some.inj h6).symm
        subst hp0o
        by_cases h1 : p0.count = 1
        · simp [h1]
        · simp only [h1, if_false, List.append_nil]
          constructor
          · intro h2; omega
          · intro h2; exact absurd h2 hnw
      · rename_i he
        rw [hw.w p0 hp0]
        by_cases h1 : o.count = 1
        · simp [h1, he]
        · simp [h1]
    · have hnw : o.h ∉ ws := fun hm => by have := (hw.w o ho).2 hm; omega
      split
      · rw [List.nodup_append]
        exact ⟨hw.nd, by simp, fun a ha b hb e => by simp at hb; subst hb; subst e; exact hnw ha⟩
      · simpa using hw.nd
    · intro x hx
      rcases List.mem_append.1 hx with hx | hx
      · obtain ⟨p, hp, rfl⟩ := hw.mem x hx
        refine ⟨_, mem_setc.2 ⟨p, hp, rfl⟩, ?_⟩
        split <;> rfl
      · split at hx
        · simp at hx
          refine ⟨_, mem_setc.2 ⟨o, ho, rfl⟩, ?_⟩
          simp [hx]
        · cases hx
theorem CInv.letg {out : Int → Int} : ∀ {P : List Lk} {L : HL} {ws : List Int}, CInv out L P → WInv L ws → CInv out (letg L P).1 [] ∧ WInv (letg L P).1 (ws ++ (letg L P).2.1) ∧ (letg L P).2.2 = []
  | [], L, ws, h, hw => ⟨h, by simpa [Go.Proofs.Ytmkajdfajcodjaa.letg] using hw, rfl⟩
  | l :: P, L, ws, h, hw => by
    obtain ⟨h1, h2, h3⟩ := h.let1 hw
    obtain ⟨h4, h5, h6⟩ := CInv.letg h1 h2
    unfold Go.Proofs.Ytmkajdfajcodjaa.letg
    exact ⟨h4, by rw [← List.append_assoc]; exact h5, by rw [h3, h6]; rfl⟩
theorem CInv.goes {out : Int → Int} {L L' : HL} {ws g f : List Int} (hg : Goes L ws L' g f) : CInv out L [] → WInv L ws → CInv out L' [] ∧ WInv L' [] ∧ f = [] := by
  induction hg with
  | nil L => exact fun h hw => ⟨h, hw, rfl⟩
  | @cons L L' x ws g f hg ih =>
    intro h hw
    obtain ⟨o, ho, rfl⟩ := hw.mem x (by simp)
    have ha := awa_own h.nd ho (h.own o ho).2.1
    have hc0 := (hw.w o ho).2 (by simp)
    have hc := h.cnt o ho
    rw [occ_nil, hc0] at hc
    have h3 := h.pos o.h
    have h4 := ind_ge L o.h
    rw [ha] at hg ih ⊢
    simp only at hg ih ⊢
    have hwn := hw.nd
    rw [List.nodup_cons] at hwn
    have h5 : CInv out (L.filter fun x => !(x.h == o.h)) o.links := by
      refine ⟨h.nd.sublist (List.Sublist.map _ (List.filter_sublist ..)), fun p hp => h.own p (List.mem_filter.1 hp).1, (h.own o ho).2.2, h.pos, fun p hp => ?_, fun y hy => ?_⟩
      · have := h.cnt p (List.mem_filter.1 hp).1
        have h6 := ind_drop h.nd ho p.h
        rw [occ_nil] at this
        omega
      · have h6 := ind_drop h.nd ho y
        have h7 := ind_ge (L.filter fun x => !(x.h == o.h)) y
        have h8 := occ_ge o.links y
        by_cases hyo : y = o.h
        · subst hyo
          exact ⟨by omega, by omega, by omega⟩
        · have := h.dead y fun p hp he => hy p (List.mem_filter.2 ⟨hp, by simpa [he] using hyo⟩) he
          exact ⟨this.1, by omega, by omega⟩
    have h6 : WInv (L.filter fun x => !(x.h == o.h)) ws := by
      refine ⟨fun p hp => ?_, hwn.2, fun y hy => ?_⟩
      · obtain ⟨hp1, hp2⟩ := List.mem_filter.1 hp
        rw [hw.w p hp1]
        have : p.h ≠ o.h := by simpa using hp2
        simp [this]
      · obtain ⟨p, hp, rfl⟩ := hw.mem y (by simp [hy])
        refine ⟨p, List.mem_filter.2 ⟨hp, ?_⟩, rfl⟩
        have : p.h ≠ o.h := fun e => hwn.1 (e ▸ hy)
        simpa using this
    obtain ⟨h7, h8, h9⟩ := h5.letg h6
    obtain ⟨i1, i2, i3⟩ := ih h7 h8
    exact ⟨i1, i2, by rw [h9, i3]; rfl⟩
theorem winv_nil {L : HL} (hp : ∀ o ∈ L, o.count ≠ 0) : WInv L [] := ⟨fun o ho => ⟨fun h => absurd h (hp o ho), fun h => by cases h⟩, by simp, fun x hx => by cases hx⟩
theorem WInv.pos {L : HL} (h : WInv L []) : ∀ o ∈ L, o.count ≠ 0 := fun o ho hc => by
  have := (h.w o ho).1 hc
  cases this
end Go.Proofs.Ytmkajdfajcodjaa

namespace Go.Proofs.Ytmkajdfajcodjaa
open Go

/-- No count is above a bound; each object has so many slots. -/
def Bd (B : Int) (k : Nat) (L : HL) : Prop := ∀ o ∈ L, o.count ≤ B ∧ o.links.length = k
theorem Bd.setc {B : Int} {k : Nat} {L : HL} (h : Bd B k L) (x c : Int) (hc : c ≤ B) : Bd B k (setc L x c) := fun o ho => by
  obtain ⟨p, hp, rfl⟩ := mem_setc.1 ho
  have := h p hp
  split
  · exact ⟨hc, this.2⟩
  · exact this
theorem whl_mem {L : HL} {h : Int} {w : Ob} (e : whl L h = some w) : w ∈ L := by
  unfold whl at e
  split at e
  · cases e
  · rename_i o ho
    split at e
    · cases e; exact (fnd_some ho).1
    · exact (fnd_some e).1
theorem Bd.let1 {B : Int} {k : Nat} {L : HL} (h : Bd B k L) (l : Lk) : Bd B k (let1 L l).1 := by
  unfold Go.Proofs.Ytmkajdfajcodjaa.let1
  split
  · exact h
  · split
    · split
      · exact h
      · rename_i w hw
        split
        · exact h
        · exact h.setc _ _ (by have := h w (whl_mem hw); omega)
    · exact h
theorem Bd.letg {B : Int} {k : Nat} : ∀ {P : List Lk} {L : HL}, Bd B k L → Bd B k (letg L P).1
  | [], _, h => h
  | l :: P, L, h => by
    unfold Go.Proofs.Ytmkajdfajcodjaa.letg
    exact Bd.letg (P := P) (h.let1 l)
theorem Bd.awa {B : Int} {k : Nat} {L : HL} (h : Bd B k L) (x : Int) : Bd B k (awa L x).1 := by
  unfold Go.Proofs.Ytmkajdfajcodjaa.awa
  split
  · exact h
  · exact fun o ho => h o (List.mem_filter.1 ho).1
theorem Bd.goes {B : Int} {k : Nat} {L L' : HL} {ws g f : List Int} (hg : Goes L ws L' g f) : Bd B k L → Bd B k L' := by
  induction hg with
  | nil L => exact id
  | cons hg ih => exact fun h => ih (h.awa _).letg
section
variable {out : Int → Int} {L : HL}
theorem CInv.make (h : CInv out L []) {x : Int} (hx : ∀ o ∈ L, o.h ≠ x) (k : Nat) (v : Int) : CInv (fun y => if y = x then 1 else out y) (L ++ [⟨x, 0, 1, v, List.replicate k ⟨0, 0⟩, []⟩]) [] := by
  have hr : ∀ (m : Nat) y, occ (List.replicate m ⟨0, 0⟩) y = 0 := fun m y => by
    induction m with
    | zero => rfl
    | succ m ih => rw [List.replicate_succ, occ_cons, ih]; simp
  have hi : ∀ y, ind (L ++ [⟨x, 0, 1, v, List.replicate k ⟨0, 0⟩, []⟩]) y = ind L y := fun y => by rw [ind_app, ind_cons, hr]; simp [ind]
  obtain ⟨d1, d2, _⟩ := h.dead x hx
  refine ⟨?_, ?_, (fun l hl => by cases hl), fun y => ?_, ?_, ?_⟩
  · unfold Nd
    rw [List.map_append, List.nodup_append]
    refine ⟨h.nd, by simp, fun a ha b hb e => ?_⟩
    obtain ⟨o, ho, rfl⟩ := List.mem_map.1 ha
    simp at hb
    exact hx o ho (by rw [e, hb])
  · intro o ho
    rcases List.mem_append.1 ho with ho | ho
    · exact h.own o ho
    · rw [List.mem_singleton.1 ho]
      exact ⟨rfl, rfl, fun l hl => by rw [List.eq_of_mem_replicate hl]; exact .inl rfl⟩
  · have := h.pos y
    split <;> omega
  · intro o ho
    rw [hi, occ_nil]
    rcases List.mem_append.1 ho with ho | ho
    · have := h.cnt o ho
      rw [occ_nil] at this
      rw [if_neg (hx o ho)]
      exact this
    · rw [List.mem_singleton.1 ho]
      simp only [if_true]
      omega
  · intro y hy
    rw [hi, occ_nil]
    have hyx : y ≠ x := fun e => hy _ (List.mem_append.2 (.inr (List.mem_singleton.2 rfl))) e.symm
    obtain ⟨e1, e2, _⟩ := h.dead y fun o ho => hy o (List.mem_append.2 (.inl ho))
    rw [if_neg hyx]
    exact ⟨e1, e2, rfl⟩
theorem same_ob (hn : Nd L) {o p : Ob} (ho : o ∈ L) (hp : p ∈ L) (e : p.h = o.h) : p = o := by
  have h6 := fnd_mem hn hp
  rw [e, fnd_mem hn ho] at h6
  exact (Option.some.inj h6).symm
theorem CInv.setc {P : List Lk} {out' : Int → Int} (h : CInv out L P) {o : Ob} (ho : o ∈ L) {c : Int} {P' : List Lk} (hk : ∀ l ∈ P', l.kind = 0 ∨ l.kind = 1) (hp : ∀ y, 0 ≤ out' y) (hc : c = out' o.h + ind L o.h + occ P' o.h) (hy : ∀ y, y ≠ o.h → out' y + occ P' y = out y + occ P y ∧ (out y = 0 → out' y = 0)) : CInv out' (setc L o.h c) P' := by
  refine ⟨h.nd.setc _ _, ?_, hk, hp, ?_, ?_⟩
  · intro p hp
    obtain ⟨p0, hp0, rfl⟩ := mem_setc.1 hp
    split
    · exact h.own p0 hp0
    · exact h.own p0 hp0
  · intro p hp
    obtain ⟨p0, hp0, rfl⟩ := mem_setc.1 hp
    rw [ind_setc]
    split
    · rename_i he
      simp only
      rw [he]; exact hc
    · rename_i he
      have h1 := h.cnt p0 hp0
      have h2 := (hy p0.h he).1
      omega
  · intro x hx
    have hx' : ∀ p ∈ L, p.h ≠ x := fun p hp he => by
      refine hx (if p.h = o.h then { p with count := c } else p) (mem_setc.2 ⟨p, hp, rfl⟩) ?_
      split <;> exact he
    obtain ⟨d1, d2, d3⟩ := h.dead x hx'
    have h2 := hy x fun e => hx' o ho e.symm
    have h3 := h2.2 d1
    have := occ_ge P' x
    rw [ind_setc]
    exact ⟨h3, d2, by omega⟩
theorem CInv.up (h : CInv out L []) {o : Ob} (ho : o ∈ L) : CInv (fun y => if y = o.h then out y + 1 else out y) (Go.Proofs.Ytmkajdfajcodjaa.setc L o.h (o.count + 1)) [] := by
  refine h.setc ho (fun l hl => by cases hl) (fun y => ?_) ?_ (fun y hy => ?_)
  · have := h.pos y
    split <;> omega
  · have := h.cnt o ho
    rw [if_pos rfl]; omega
  · rw [if_neg hy]
    exact ⟨rfl, fun e => e⟩
theorem CInv.down (h : CInv out L []) {o : Ob} (ho : o ∈ L) (h1 : 0 < out o.h) : CInv (fun y => if y = o.h then out y - 1 else out y) L [⟨1, o.h⟩] := by
  refine ⟨h.nd, h.own, fun l hl => by rw [List.mem_singleton.1 hl]; exact .inr rfl, fun y => ?_, fun p hp => ?_, fun y hy => ?_⟩
  · have := h.pos y
    split
    · rename_i e; subst e; omega
    · exact this
  · have := h.cnt p hp
    rw [occ_nil] at this
    rw [occ_cons, occ_nil]
    by_cases e : p.h = o.h
    · rw [if_pos e, if_pos ⟨rfl, e.symm⟩]; omega
    · rw [if_neg e, if_neg (fun k => e k.2.symm)]; omega
  · have hyo : y ≠ o.h := fun e => hy o ho e.symm
    obtain ⟨d1, d2, _⟩ := h.dead y hy
    rw [if_neg hyo, occ_cons, occ_nil, if_neg (fun k => hyo k.2.symm)]
    exact ⟨d1, d2, rfl⟩
/-- An object is laid into a slot. -/
theorem CInv.put (h : CInv out L []) {o j : Ob} (ho : o ∈ L) (hj : j ∈ L) {slot : Nat} {old : Lk} (hs : o.links[slot]? = some old) : CInv out (setl (Go.Proofs.Ytmkajdfajcodjaa.setc L j.h (j.count + 1)) o.h slot ⟨1, j.h⟩) [old] := by
  have hnd := h.nd.setc j.h (j.count + 1)
  obtain ⟨o1, ho1, ho1h, ho1l⟩ : ∃ o1 ∈ Go.Proofs.Ytmkajdfajcodjaa.setc L j.h (j.count + 1), o1.h = o.h ∧ o1.links = o.links := by
    refine ⟨_, mem_setc.2 ⟨o, ho, rfl⟩, ?_, ?_⟩
    · split <;> rfl
    · split <;> rfl
  have hind : ∀ y, ind (setl (Go.Proofs.Ytmkajdfajcodjaa.setc L j.h (j.count + 1)) o.h slot ⟨1, j.h⟩) y + occ [old] y = ind L y + (if j.h = y then 1 else 0) := fun y => by
    have := ind_setl hnd ho1 (slot := slot) (x := ⟨1, j.h⟩) (by rw [ho1l]; exact hs) y
    rw [ho1h, ind_setc] at this
    rw [occ_cons, occ_nil]
    simp only [true_and] at this
    omega
  refine ⟨by unfold Nd; rw [setl_h]; exact hnd, ?_, ?_, h.pos, ?_, ?_⟩
  · intro p hp
    obtain ⟨p1, hp1, rfl⟩ := mem_setl.1 hp
    obtain ⟨p0, hp0, rfl⟩ := mem_setc.1 hp1
    have h0 := h.own p0 hp0
    have key : ∀ q : Ob, q.outer = 0 ∧ q.inners = [] ∧ (∀ l ∈ q.links, l.kind = 0 ∨ l.kind = 1) → (if q.h = o.h then { q with links := q.links.set slot ⟨1, j.h⟩ } else q).outer = 0 ∧ (if q.h = o.h then { q with links := q.links.set slot ⟨1, j.h⟩ } else q).inners = [] ∧ ∀ l ∈ (if q.h = o.h then { q with links := q.links.set slot ⟨1, j.h⟩ } else q).links, l.kind = 0 ∨ l.kind = 1 := fun q hq => by
      split
      · refine ⟨hq.1, hq.2.1, fun l hl => ?_⟩
        rcases List.mem_or_eq_of_mem_set hl with hl | rfl
        · exact hq.2.2 l hl
        · exact .inr rfl
      · exact hq
    refine key _ ?_
    split
    · exact h0
    · exact h0
  · intro l hl
    rw [List.mem_singleton.1 hl]
    exact (h.own o ho).2.2 old (List.mem_of_getElem? hs)
  · intro p hp
    obtain ⟨p1, hp1, rfl⟩ := mem_setl.1 hp
    obtain ⟨p0, hp0, rfl⟩ := mem_setc.1 hp1
    have h0 := h.cnt p0 hp0
    rw [occ_nil] at h0
    have key : ∀ q : Ob, q.h = p0.h → q.count = p0.count + (if j.h = p0.h then 1 else 0) → (if q.h = o.h then { q with links := q.links.set slot ⟨1, j.h⟩ } else q).count = out (if q.h = o.h then { q with links := q.links.set slot ⟨1, j.h⟩ } else q).h + ind (setl (Go.Proofs.Ytmkajdfajcodjaa.setc L j.h (j.count + 1)) o.h slot ⟨1, j.h⟩) (if q.h = o.h then { q with links := q.links.set slot ⟨1, j.h⟩ } else q).h + occ [old] (if q.h = o.h then { q with links := q.links.set slot ⟨1, j.h⟩ } else q).h := fun q hq1 hq2 => by
      have e1 : (if q.h = o.h then { q with links := q.links.set slot ⟨1, j.h⟩ } else q).count = q.count := by split <;> rfl
      have e2 : (if q.h = o.h then { q with links := q.links.set slot ⟨1, j.h⟩ } else q).h = p0.h := by split <;> exact hq1
      rw [e1, e2, hq2]
      have := hind p0.h
      omega
    refine key _ ?_ ?_
    · split <;> rfl
    · split
      · rename_i e
        have := same_ob h.nd hj hp0 e
        subst this
        rw [if_pos rfl]
      · rename_i e
        rw [if_neg (fun k => e k.symm)]
        omega
  · intro y hy
    have hy' : ∀ p ∈ L, p.h ≠ y := fun p hp he => by
      have m1 := mem_setc (h := j.h) (c := j.count + 1) |>.2 ⟨p, hp, rfl⟩
      have m2 := mem_setl (h := o.h) (slot := slot) (x := ⟨1, j.h⟩) |>.2 ⟨_, m1, rfl⟩
      refine hy _ m2 ?_
      split <;> (split <;> exact he)
    obtain ⟨d1, d2, _⟩ := h.dead y hy'
    have := hind y
    have hjy : j.h ≠ y := hy' j hj
    rw [if_neg hjy, d2] at this
    have h4 := ind_ge (setl (Go.Proofs.Ytmkajdfajcodjaa.setc L j.h (j.count + 1)) o.h slot ⟨1, j.h⟩) y
    have h5 := occ_ge [old] y
    exact ⟨d1, by omega, by omega⟩
end
/-- What is counted over the handles that were given. -/
def linksOf (L : HL) (h : Int) : List Lk := match fnd L h with
  | some o => o.links
  | none => []
theorem sum_given {L : HL} (hn : Nd L) (h : Int) : ∀ {given : List Int}, given.Nodup → (∀ o ∈ L, o.h ∈ given) → (given.map fun x => occ (linksOf L x) h).sum = ind L h := by
  induction L with
  | nil =>
    intro given _ _
    have : ∀ x, occ (linksOf [] x) h = 0 := fun _ => rfl
    have hz : ∀ g : List Int, (g.map fun _ => (0 : Int)).sum = 0 := fun g => by
      induction g with
      | nil => rfl
      | cons a g ih => rw [List.map_cons, List.sum_cons, ih]; rfl
    simp only [this, hz]
    rfl
  | cons a L ih =>
    intro given hg hm
    have hn' : (a.h :: L.map (·.h)).Nodup := hn
    rw [List.nodup_cons] at hn'
    have h1 := ih hn'.2 hg fun o ho => hm o (by simp [ho])
    rw [ind_cons, ← h1]
    have hnone : fnd L a.h = none := fnd_none.2 fun o ho e => hn'.1 (e ▸ List.mem_map.2 ⟨o, ho, rfl⟩)
    have hf : ∀ x, occ (linksOf (a :: L) x) h = (if x = a.h then occ a.links h else 0) + occ (linksOf L x) h := fun x => by
      by_cases e : x = a.h
      · subst e
        have e1 : fnd (a :: L) a.h = some a := by unfold fnd; simp
        rw [if_pos rfl]
        unfold linksOf
        rw [e1, hnone, occ_nil]
        simp
      · have e1 : fnd (a :: L) x = fnd L x := by
          unfold fnd
          have : (a.h == x) = false := by simpa using fun k : a.h = x => e k.symm
          rw [List.find?_cons, this]
        rw [if_neg e]
        unfold linksOf
        rw [e1]
        omega
    simp only [hf]
    have hsum : ∀ {g : List Int}, g.Nodup → (g.map fun x => (if x = a.h then occ a.links h else 0) + occ (linksOf L x) h).sum = (if a.h ∈ g then occ a.links h else 0) + (g.map fun x => occ (linksOf L x) h).sum := by
      intro g hg
      induction g with
      | nil => simp
      | cons y g ih2 =>
        rw [List.nodup_cons] at hg
        rw [List.map_cons, List.sum_cons, ih2 hg.2, List.map_cons, List.sum_cons]
        by_cases e : y = a.h
        · subst e
          rw [if_pos rfl, if_neg hg.1, if_pos (by simp)]
          omega
        · rw [if_neg e]
          by_cases e2 : a.h ∈ g
          · rw [if_pos e2, if_pos (by simp [e2])]; omega
          · rw [if_neg e2, if_neg (by simp [e2]; exact fun k => e k.symm)]; omega
    rw [hsum hg, if_pos (hm a (by simp))]
end Go.Proofs.Ytmkajdfajcodjaa
