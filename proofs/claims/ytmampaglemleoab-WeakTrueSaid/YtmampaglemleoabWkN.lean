/-
  The laws of layer 12, plainly: how often blocks were given, and counted down.
-/
import Derived.Test.YtmampaglemleoabWkM
namespace Go.Proofs.Ytmampaglemleoab
open Go

/-- Each block's count is how often it stands in R. -/
structure EJ (s : Ws) (R : List Int) : Prop where
  cn : ∀ b ∈ s.L, b.n = (R.count b.h : Nat)
  has : ∀ x ∈ R, ∃ b ∈ s.L, b.h = x
theorem EJ.nil (A : Ar) : EJ ⟨A, []⟩ [] := ⟨by simp, by simp⟩
theorem EJ.of {s s' : Ws} {R : List Int} {t h : Int} (hj : EJ s R) (hs : WkI s) (hr : WkOf s t s' h 0) : EJ s' (R ++ [h]) := by
  cases hr with
  | up b hl hn =>
    obtain ⟨h1, _, _⟩ := lv_some hl
    refine ⟨fun o ho => ?_, fun x hx => ?_⟩
    · obtain ⟨p, hp, e1, _, _, _, e⟩ := setn_key ho
      rw [e1, List.count_append]
      by_cases hx : p.h = b.h
      · rw [e, if_pos hx, hx]
        have := hj.cn b h1
        simp
        omega
      · rw [e, if_neg hx, hj.cn p hp]
        have : List.count p.h [b.h] = 0 := by rw [List.count_eq_zero]; simpa using hx
        rw [this]; rfl
    · have key : ∀ p ∈ s.L, ∃ q ∈ setn s.L b.h (b.n + 1), q.h = p.h := fun p hp => ⟨_, mem_setn.2 ⟨p, hp, rfl⟩, by split <;> rfl⟩
      rcases List.mem_append.1 hx with hx | hx
      · obtain ⟨p, hp, e⟩ := hj.has x hx
        obtain ⟨q, hq, e2⟩ := key p hp
        exact ⟨q, hq, e2.trans e⟩
      · simp at hx
        subst hx
        exact key b h1
  | new hl hp =>
    have hfr := hs.fresh hp
    rename_i i g A'
    refine ⟨fun o ho => ?_, fun x hx => ?_⟩
    · rw [List.count_append]
      rcases List.mem_append.1 ho with ho | ho
      · have : List.count o.h [hand i g] = 0 := by rw [List.count_eq_zero]; simpa using hfr o ho
        rw [this, hj.cn o ho]; rfl
      · simp at ho
        subst ho
        have : List.count (hand i g) R = 0 := by
          rw [List.count_eq_zero]
          intro hm
          obtain ⟨b, hb, e⟩ := hj.has _ hm
          exact hfr b hb e
        simp [this]
    · rcases List.mem_append.1 hx with hx | hx
      · obtain ⟨b, hb, e⟩ := hj.has x hx
        exact ⟨b, List.mem_append_left _ hb, e⟩
      · simp at hx
        subst hx
        exact ⟨_, List.mem_append_right _ (List.mem_singleton.2 rfl), rfl⟩
theorem EJ.die {s : Ws} {R : List Int} (hj : EJ s R) (t : Int) : EJ { s with L := dieL s.L t } R := by
  unfold dieL
  cases lv s.L t with
  | none => exact hj
  | some b =>
    refine ⟨fun o ho => ?_, fun x hx => ?_⟩
    · obtain ⟨p, hp, e⟩ := mem_kill.1 ho
      have h1 : o.h = p.h ∧ o.n = p.n := by rw [e]; split <;> exact ⟨rfl, rfl⟩
      rw [h1.1, h1.2]
      exact hj.cn p hp
    · obtain ⟨p, hp, e⟩ := hj.has x hx
      exact ⟨_, mem_kill.2 ⟨p, hp, rfl⟩, by split <;> exact e⟩
theorem EJ.dn {s s' : Ws} {R : List Int} {x n er : Int} (hj : EJ s (x :: R)) (hs : WkI s) (hr : WkDn s x s' n er) : er = 0 ∧ EJ s' R := by
  obtain ⟨b0, hb0, e0⟩ := hj.has x (by simp)
  have hfb : fb s.L x = some b0 := by rw [← e0]; exact fb_mem hs.nd hb0
  have hc : ∀ p ∈ s.L, p.h ≠ x → p.n = (R.count p.h : Nat) := fun p hp hne => by
    rw [hj.cn p hp, List.count_cons_of_ne (fun e => hne e.symm)]
  have hc0 : b0.n = (R.count x : Nat) + 1 := by
    have := hj.cn b0 hb0
    rw [e0, List.count_cons_self] at this
    omega
  cases hr with
  | stale hf => rw [hfb] at hf; cases hf
  | more b hf hn =>
    rw [hfb] at hf
    cases hf
    refine ⟨rfl, fun o ho => ?_, fun y hy => ?_⟩
    · obtain ⟨p, hp, e1, _, _, _, e⟩ := setn_key ho
      rw [e1]
      by_cases hx : p.h = x
      · rw [e, if_pos hx, hx]
        simp only
        omega
      · rw [e, if_neg hx]
        exact hc p hp hx
    · obtain ⟨p, hp, e⟩ := hj.has y (by simp [hy])
      exact ⟨_, mem_setn.2 ⟨p, hp, rfl⟩, by split <;> exact e⟩
  | last b hf hn ha =>
    rw [hfb] at hf
    cases hf
    have hz : R.count x = 0 := by omega
    refine ⟨rfl, fun o ho => ?_, fun y hy => ?_⟩
    · obtain ⟨h1, h2⟩ := mem_cutb.1 ho
      exact hc o h1 h2
    · obtain ⟨p, hp, e⟩ := hj.has y (by simp [hy])
      refine ⟨p, mem_cutb.2 ⟨hp, fun k => ?_⟩, e⟩
      rw [List.count_eq_zero] at hz
      exact hz (by rw [← k, e]; exact hy)
theorem EJ.le {s : Ws} {R : List Int} (hj : EJ s R) {b : Bl} (hb : b ∈ s.L) : b.n ≤ R.length := by
  rw [hj.cn b hb]
  have := List.count_le_length (a := b.h) (l := R)
  omega
theorem EJ.empty {s : Ws} (hj : EJ s []) (hs : WkI s) : s.L = [] := by
  cases hl : s.L with
  | nil => rfl
  | cons b l =>
    have hb : b ∈ s.L := by rw [hl]; simp
    have h1 := hj.cn b hb
    have h2 := (hs.bd b hb).2.1
    simp at h1
    omega
/-- How many places are in use. -/
theorem WkOf.places {s s' : Ws} {t h e : Int} (hr : WkOf s t s' h e) : s'.A.L.length ≤ s.A.L.length + 1 ∧ s'.A.most = s.A.most := by
  cases hr with
  | up => exact ⟨by simp, rfl⟩
  | top => exact ⟨by simp, rfl⟩
  | full => exact ⟨by simp, rfl⟩
  | new hl hp =>
    cases hp with
    | again F i s hF hs => exact ⟨by simp, rfl⟩
    | fresh hF hl => exact ⟨by simp, rfl⟩
theorem WkOf.ok {s s' : Ws} {t h e : Int} (hr : WkOf s t s' h e) (h1 : s.A.L.length < s.A.most) (h2 : ∀ b ∈ s.L, b.n < 4294967295) : e = 0 := by
  cases hr with
  | up => rfl
  | top b hl hn => have := h2 b (lv_some hl).1; omega
  | full hl hF => have := hF.2; omega
  | new => rfl
theorem WkDn.places {s s' : Ws} {h n e : Int} (hr : WkDn s h s' n e) : s'.A.L.length = s.A.L.length ∧ s'.A.most = s.A.most := by
  cases hr with
  | stale => exact ⟨rfl, rfl⟩
  | more => exact ⟨rfl, rfl⟩
  | last b hf hn ha => unfold dropAt; split <;> exact ⟨by simp, rfl⟩
end Go.Proofs.Ytmampaglemleoab
