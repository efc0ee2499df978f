/-
  Heaps plainly: what is done keeps the counts.
-/
import Derived.Test.YtceokibalphgpaaHpK
namespace Go.Proofs.Ytceokibalphgpaa
open Go

/-- No count is above a bound; each object has so many slots. -/
def Bd (B : Int) (k : Nat) (L : HL) : Prop := ∀ o ∈ L, o.count ≤ B ∧ o.links.length = k
theorem Bd.setc {B : Int} {k : Nat} {L : HL} (h : Bd B k L) (x c : Int) (hc : c ≤ B) : Bd B k (setc L x c) := fun o ho => by
  obtain ⟨p, hp, rfl⟩ := mem_setc.1 ho
  have := h p hp
  split
  · exact ⟨hc, this.2⟩
  · exact this
theorem whl_mem {L : HL} {h : Int} {w : Ob} (e : whl L h = some w) : w ∈ L := by
  unfold whl at e
  split at e
  · cases e
  · rename_i o ho
    split at e
    · cases e; exact (fnd_some ho).1
    · exact (fnd_some e).1
theorem Bd.let1 {B : Int} {k : Nat} {L : HL} (h : Bd B k L) (l : Lk) : Bd B k (let1 L l).1 := by
  unfold Go.Proofs.Ytceokibalphgpaa.let1
  split
  · exact h
  · split
    · split
      · exact h
      · rename_i w hw
        split
        · exact h
        · exact h.setc _ _ (by have := h w (whl_mem hw); omega)
    · exact h
theorem Bd.letg {B : Int} {k : Nat} : ∀ {P : List Lk} {L : HL}, Bd B k L → Bd B k (letg L P).1
  | [], _, h => h
  | l :: P, L, h => by
    unfold Go.Proofs.Ytceokibalphgpaa.letg
    exact Bd.letg (P := P) (h.let1 l)
theorem Bd.awa {B : Int} {k : Nat} {L : HL} (h : Bd B k L) (x : Int) : Bd B k (awa L x).1 := by
  unfold Go.Proofs.Ytceokibalphgpaa.awa
  split
  · exact h
  · exact fun o ho => h o (List.mem_filter.1 ho).1
theorem Bd.goes {B : Int} {k : Nat} {L L' : HL} {ws g f : List Int} (hg : Goes L ws L' g f) : Bd B k L → Bd B k L' := by
  induction hg with
  | nil L => exact id
  | cons hg ih => exact fun h => ih (h.awa _).letg
section
variable {out : Int → Int} {L : HL}
theorem CInv.make (h : CInv out L []) {x : Int} (hx : ∀ o ∈ L, o.h ≠ x) (k : Nat) (v : Int) : CInv (fun y => if y = x then 1 else out y) (L ++ [⟨x, 0, 1, v, List.replicate k ⟨0, 0⟩, []⟩]) [] := by
  have hr : ∀ (m : Nat) y, occ (List.replicate m ⟨0, 0⟩) y = 0 := fun m y => by
    induction m with
    | zero => rfl
    | succ m ih => rw [List.replicate_succ, occ_cons, ih]; simp
  have hi : ∀ y, ind (L ++ [⟨x, 0, 1, v, List.replicate k ⟨0, 0⟩, []⟩]) y = ind L y := fun y => by rw [ind_app, ind_cons, hr]; simp [ind]
  obtain ⟨d1, d2, _⟩ := h.dead x hx
  refine ⟨?_, ?_, (fun l hl => by cases hl), fun y => ?_, ?_, ?_⟩
  · unfold Nd
    rw [List.map_append, List.nodup_append]
    refine ⟨h.nd, by simp, fun a ha b hb e => ?_⟩
    obtain ⟨o, ho, rfl⟩ := List.mem_map.1 ha
    simp at hb
    exact hx o ho (by rw [e, hb])
  · intro o ho
    rcases List.mem_append.1 ho with ho | ho
    · exact h.own o ho
    · rw [List.mem_singleton.1 ho]
      exact ⟨rfl, rfl, fun l hl => by rw [List.eq_of_mem_replicate hl]; exact .inl rfl⟩
  · have := h.pos y
    split <;> omega
  · intro o ho
    rw [hi, occ_nil]
    rcases List.mem_append.1 ho with ho | ho
    · have := h.cnt o ho
      rw [occ_nil] at this
      rw [if_neg (hx o ho)]
      exact this
    · rw [List.mem_singleton.1 ho]
      simp only [if_true]
      omega
  · intro y hy
    rw [hi, occ_nil]
    have hyx : y ≠ x := fun e => hy _ (List.mem_append.2 (.inr (List.mem_singleton.2 rfl))) e.symm
    obtain ⟨e1, e2, _⟩ := h.dead y fun o ho => hy o (List.mem_append.2 (.inl ho))
    rw [if_neg hyx]
    exact ⟨e1, e2, rfl⟩
theorem same_ob (hn : Nd L) {o p : Ob} (ho : o ∈ L) (hp : p ∈ L) (e : p.h = o.h) : p = o := by
  have h6 := fnd_mem hn hp
  rw [e, fnd_mem hn ho] at h6
  exact (Option.some.inj h6).symm
theorem CInv.setc {P : List Lk} {out' : Int → Int} (h : CInv out L P) {o : Ob} (ho : o ∈ L) {c : Int} {P' : List Lk} (hk : ∀ l ∈ P', l.kind = 0 ∨ l.kind = 1) (hp : ∀ y, 0 ≤ out' y) (hc : c = out' o.h + ind L o.h + occ P' o.h) (hy : ∀ y, y ≠ o.h → out' y + occ P' y = out y + occ P y ∧ (out y = 0 → out' y = 0)) : CInv out' (setc L o.h c) P' := by
  refine ⟨h.nd.setc _ _, ?_, hk, hp, ?_, ?_⟩
  · intro p hp
    obtain ⟨p0, hp0, rfl⟩ := mem_setc.1 hp
    split
    · exact h.own p0 hp0
    · exact h.own p0 hp0
  · intro p hp
    obtain ⟨p0, hp0, rfl⟩ := mem_setc.1 hp
    rw [ind_setc]
    split
    · rename_i he
      simp only
      rw [he]; exact hc
    · rename_i he
      have h1 := h.cnt p0 hp0
      have h2 := (hy p0.h he).1
      omega
  · intro x hx
    have hx' : ∀ p ∈ L, p.h ≠ x := fun p hp he => by
      refine hx (if p.h = o.h then { p with count := c } else p) (mem_setc.2 ⟨p, hp, rfl⟩) ?_
      split <;> exact he
    obtain ⟨d1, d2, d3⟩ := h.dead x hx'
    have h2 := hy x fun e => hx' o ho e.symm
    have h3 := h2.2 d1
    have := occ_ge P' x
    rw [ind_setc]
    exact ⟨h3, d2, by omega⟩
theorem CInv.up (h : CInv out L []) {o : Ob} (ho : o ∈ L) : CInv (fun y => if y = o.h then out y + 1 else out y) (Go.Proofs.Ytceokibalphgpaa.setc L o.h (o.count + 1)) [] := by
  refine h.setc ho (fun l hl => by cases hl) (fun y => ?_) ?_ (fun y hy => ?_)
  · have := h.pos y
    split <;> omega
  · have := h.cnt o ho
    rw [if_pos rfl]; omega
  · rw [if_neg hy]
    exact ⟨rfl, fun e => e⟩
theorem CInv.down (h : CInv out L []) {o : Ob} (ho : o ∈ L) (h1 : 0 < out o.h) : CInv (fun y => if y = o.h then out y - 1 else out y) L [⟨1, o.h⟩] := by
  refine ⟨h.nd, h.own, fun l hl => by rw [List.mem_singleton.1 hl]; exact .inr rfl, fun y => ?_, fun p hp => ?_, fun y hy => ?_⟩
  · have := h.pos y
    split
    · rename_i e; subst e; omega
    · exact this
  · have := h.cnt p hp
    rw [occ_nil] at this
    rw [occ_cons, occ_nil]
    by_cases e : p.h = o.h
    · rw [if_pos e, if_pos ⟨rfl, e.symm⟩]; omega
    · rw [if_neg e, if_neg (fun k => e k.2.symm)]; omega
  · have hyo : y ≠ o.h := fun e => hy o ho e.symm
    obtain ⟨d1, d2, _⟩ := h.dead y hy
    rw [if_neg hyo, occ_cons, occ_nil, if_neg (fun k => hyo k.2.symm)]
    exact ⟨d1, d2, rfl⟩
/-- An object is laid into a slot. -/
theorem CInv.put (h : CInv out L []) {o j : Ob} (ho : o ∈ L) (hj : j ∈ L) {slot : Nat} {old : Lk} (hs : o.links[slot]? = some old) : CInv out (setl (Go.Proofs.Ytceokibalphgpaa.setc L j.h (j.count + 1)) o.h slot ⟨1, j.h⟩) [old] := by
  have hnd := h.nd.setc j.h (j.count + 1)
  obtain ⟨o1, ho1, ho1h, ho1l⟩ : ∃ o1 ∈ Go.Proofs.Ytceokibalphgpaa.setc L j.h (j.count + 1), o1.h = o.h ∧ o1.links = o.links := by
    refine ⟨_, mem_setc.2 ⟨o, ho, rfl⟩, ?_, ?_⟩
    · split <;> rfl
    · split <;> rfl
  have hind : ∀ y, ind (setl (Go.Proofs.Ytceokibalphgpaa.setc L j.h (j.count + 1)) o.h slot ⟨1, j.h⟩) y + occ [old] y = ind L y + (if j.h = y then 1 else 0) := fun y => by
    have := ind_setl hnd ho1 (slot := slot) (x := ⟨1, j.h⟩) (by rw [ho1l]; exact hs) y
    rw [ho1h, ind_setc] at this
    rw [occ_cons, occ_nil]
    simp only [true_and] at this
    omega
  refine ⟨by unfold Nd; rw [setl_h]; exact hnd, ?_, ?_, h.pos, ?_, ?_⟩
  · intro p hp
    obtain ⟨p1, hp1, rfl⟩ := mem_setl.1 hp
    obtain ⟨p0, hp0, rfl⟩ := mem_setc.1 hp1
    have h0 := h.own p0 hp0
    have key : ∀ q : Ob, q.outer = 0 ∧ q.inners = [] ∧ (∀ l ∈ q.links, l.kind = 0 ∨ l.kind = 1) → (if q.h = o.h then { q with links := q.links.set slot ⟨1, j.h⟩ } else q).outer = 0 ∧ (if q.h = o.h then { q with links := q.links.set slot ⟨1, j.h⟩ } else q).inners = [] ∧ ∀ l ∈ (if q.h = o.h then { q with links := q.links.set slot ⟨1, j.h⟩ } else q).links, l.kind = 0 ∨ l.kind = 1 := fun q hq => by
      split
      · refine ⟨hq.1, hq.2.1, fun l hl => ?_⟩
        rcases List.mem_or_eq_of_mem_set hl with hl | rfl
        · exact hq.2.2 l hl
        · exact .inr rfl
      · exact hq
    refine key _ ?_
    split
    · exact h0
    · exact h0
  · intro l hl
    rw [List.mem_singleton.1 hl]
    exact (h.own o ho).2.2 old (List.mem_of_getElem? hs)
  · intro p hp
    obtain ⟨p1, hp1, rfl⟩ := mem_setl.1 hp
    obtain ⟨p0, hp0, rfl⟩ := mem_setc.1 hp1
    have h0 := h.cnt p0 hp0
    rw [occ_nil] at h0
    have key : ∀ q : Ob, q.h = p0.h → q.count = p0.count + (if j.h = p0.h then 1 else 0) → (if q.h = o.h then { q with links := q.links.set slot ⟨1, j.h⟩ } else q).count = out (if q.h = o.h then { q with links := q.links.set slot ⟨1, j.h⟩ } else q).h + ind (setl (Go.Proofs.Ytceokibalphgpaa.setc L j.h (j.count + 1)) o.h slot ⟨1, j.h⟩) (if q.h = o.h then { q with links := q.links.set slot ⟨1, j.h⟩ } else q).h + occ [old] (if q.h = o.h then { q with links := q.links.set slot ⟨1, j.h⟩ } else q).h := fun q hq1 hq2 => by
      have e1 : (if q.h = o.h then { q with links := q.links.set slot ⟨1, j.h⟩ } else q).count = q.count := by split <;> rfl
      have e2 : (if q.h = o.h then { q with links := q.links.set slot ⟨1, j.h⟩ } else q).h = p0.h := by split <;> exact hq1
      rw [e1, e2, hq2]
      have := hind p0.h
      omega
    refine key _ ?_ ?_
    · split <;> rfl
    · split
      · rename_i e
        have := same_ob h.nd hj hp0 e
        subst this
        rw [if_pos rfl]
      · rename_i e
        rw [if_neg (fun k => e k.symm)]
        omega
  · intro y hy
    have hy' : ∀ p ∈ L, p.h ≠ y := fun p hp he => by
      have m1 := mem_setc (h := j.h) (c := j.count + 1) |>.2 ⟨p, hp, rfl⟩
      have m2 := mem_setl (h := o.h) (slot := slot) (x := ⟨1, j.h⟩) |>.2 ⟨_, m1, rfl⟩
      refine hy _ m2 ?_
      split <;> (split <;> exact he)
    obtain ⟨d1, d2, _⟩ := h.dead y hy'
    have := hind y
    have hjy : j.h ≠ y := hy' j hj
    rw [if_neg hjy, d2] at this
    have h4 := ind_ge (setl (Go.Proofs.Ytceokibalphgpaa.setc L j.h (j.count + 1)) o.h slot ⟨1, j.h⟩) y
    have h5 := occ_ge [old] y
    exact ⟨d1, by omega, by omega⟩
end
/-- What is counted over the handles that were given. -/
def linksOf (L : HL) (h : Int) : List Lk := match fnd L h with
  | some o => o.links
  | none => []
theorem sum_given {L : HL} (hn : Nd L) (h : Int) : ∀ {given : List Int}, given.Nodup → (∀ o ∈ L, o.h ∈ given) → (given.map fun x => occ (linksOf L x) h).sum = ind L h := by
  induction L with
  | nil =>
    intro given _ _
    have : ∀ x, occ (linksOf [] x) h = 0 := fun _ => rfl
    have hz : ∀ g : List Int, (g.map fun _ => (0 : Int)).sum = 0 := fun g => by
      induction g with
      | nil => rfl
      | cons a g ih => rw [List.map_cons, List.sum_cons, ih]; rfl
    simp only [this, hz]
    rfl
  | cons a L ih =>
    intro given hg hm
    have hn' : (a.h :: L.map (·.h)).Nodup := hn
    rw [List.nodup_cons] at hn'
    have h1 := ih hn'.2 hg fun o ho => hm o (by simp [ho])
    rw [ind_cons, ← h1]
    have hnone : fnd L a.h = none := fnd_none.2 fun o ho e => hn'.1 (e ▸ List.mem_map.2 ⟨o, ho, rfl⟩)
    have hf : ∀ x, occ (linksOf (a :: L) x) h = (if x = a.h then occ a.links h else 0) + occ (linksOf L x) h := fun x => by
      by_cases e : x = a.h
      · subst e
        have e1 : fnd (a :: L) a.h = some a := by unfold fnd; simp
        rw [if_pos rfl]
        unfold linksOf
        rw [e1, hnone, occ_nil]
        simp
      · have e1 : fnd (a :: L) x = fnd L x := by
          unfold fnd
          have : (a.h == x) = false := by simpa using fun k : a.h = x => e k.symm
          rw [List.find?_cons, this]
        rw [if_neg e]
        unfold linksOf
        rw [e1]
        omega
    simp only [hf]
    have hsum : ∀ {g : List Int}, g.Nodup → (g.map fun x => (if x = a.h then occ a.links h else 0) + occ (linksOf L x) h).sum = (if a.h ∈ g then occ a.links h else 0) + (g.map fun x => occ (linksOf L x) h).sum := by
      intro g hg
      induction g with
      | nil => simp
      | cons y g ih2 =>
        rw [List.nodup_cons] at hg
        rw [List.map_cons, List.sum_cons, ih2 hg.2, List.map_cons, List.sum_cons]
        by_cases e : y = a.h
        · subst e
          rw [if_pos rfl, if_neg hg.1, if_pos (by simp)]
          omega
        · rw [if_neg e]
          by_cases e2 : a.h ∈ g
          · rw [if_pos e2, if_pos (by simp [e2])]; omega
          · rw [if_neg e2, if_neg (by simp [e2]; exact fun k => e k.symm)]; omega
    rw [hsum hg, if_pos (hm a (by simp))]
end Go.Proofs.Ytceokibalphgpaa
