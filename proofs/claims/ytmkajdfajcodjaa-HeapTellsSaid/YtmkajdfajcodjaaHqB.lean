/- HqM HqP HqA HqB in one -/
import Derived.Test.YtmkajdfajcodjaaHpC
import Derived.Test.YtmkajdfajcodjaaArP
import Derived.Test.YtmkajdfajcodjaaAeD
namespace Go.Proofs.Ytmkajdfajcodjaa
open Go

/-- What holds of the objects, whatever is done. -/
structure HIn (top : Int) (L : HL) : Prop where
  nd : Nd L
  nz : ∀ o ∈ L, 1 ≤ o.h ∧ o.h ≤ 18446744073709551615
  out : ∀ o ∈ L, o.outer ≠ 0 → ∃ x ∈ L, x.h = o.outer ∧ x.outer = 0 ∧ o.h ∈ x.inners
  inn : ∀ x ∈ L, ∀ h ∈ x.inners, ∃ o ∈ L, o.h = h ∧ o.outer = x.h
  idp : ∀ x ∈ L, x.inners.Nodup
  cnt : ∀ o ∈ L, 0 ≤ o.count ∧ o.count ≤ top
  val : ∀ o ∈ L, Nm o.value
  oub : ∀ o ∈ L, Hn o.outer
  lnk : ∀ o ∈ L, o.links.length ≤ 8 ∧ ∀ l ∈ o.links, Nm l.kind ∧ Hn l.h
section
variable {top : Int} {L : HL}
theorem ob_eq (hn : Nd L) {o p : Ob} (ho : o ∈ L) (hp : p ∈ L) (e : p.h = o.h) : p = o := by
  have h1 := fnd_mem hn ho
  have h2 := fnd_mem hn hp
  rw [e, h1] at h2
  exact (Option.some.inj h2).symm
theorem whl_cases (h : HIn top L) {hd : Int} {o : Ob} (e : fnd L hd = some o) : (o.outer = 0 ∧ whl L hd = some o) ∨ (o.outer ≠ 0 ∧ ∃ x ∈ L, x.h = o.outer ∧ x.outer = 0 ∧ o.h ∈ x.inners ∧ whl L hd = some x) := by
  unfold whl
  rw [e]
  simp only
  by_cases h0 : o.outer = 0
  · exact .inl ⟨h0, by rw [if_pos h0]⟩
  · obtain ⟨x, hx, h1, h2, h3⟩ := h.out o (fnd_some e).1 h0
    exact .inr ⟨h0, x, hx, h1, h2, h3, by rw [if_neg h0, ← h1]; exact fnd_mem h.nd hx⟩
theorem whl_none (h : HIn top L) {hd : Int} : whl L hd = none ↔ fnd L hd = none := by
  constructor
  · intro e
    cases hf : fnd L hd with
    | none => rfl
    | some o =>
      rcases whl_cases h hf with ⟨_, h1⟩ | ⟨_, x, _, _, _, _, h1⟩
      · rw [e] at h1; cases h1
      · rw [e] at h1; cases h1
  · intro e
    unfold whl
    rw [e]
theorem whl_some (h : HIn top L) {hd : Int} {x : Ob} (e : whl L hd = some x) : x ∈ L ∧ x.outer = 0 := by
  cases hf : fnd L hd with
  | none => rw [(whl_none h).2 hf] at e; cases e
  | some o =>
    rcases whl_cases h hf with ⟨h0, h1⟩ | ⟨_, y, hy, _, h2, _, h1⟩
    · rw [h1] at e
      cases e
      exact ⟨(fnd_some hf).1, h0⟩
    · rw [h1] at e
      cases e
      exact ⟨hy, h2⟩
theorem HIn.inn0 (h : HIn top L) {x : Ob} (hx : x ∈ L) (h0 : x.outer ≠ 0) : x.inners = [] := by
  cases hi : x.inners with
  | nil => rfl
  | cons a r =>
    obtain ⟨o, ho, h1, h2⟩ := h.inn x hx a (by rw [hi]; simp)
    have h3 := h.nz x hx
    obtain ⟨y, hy, h4, h5, _⟩ := h.out o ho (by omega)
    rw [ob_eq h.nd hx hy (h4.trans h2)] at h5
    exact absurd h5 h0
theorem HIn.self (h : HIn top L) {x : Ob} (hx : x ∈ L) : x.h ∉ x.inners := fun hm => by
  obtain ⟨o, ho, h1, h2⟩ := h.inn x hx _ hm
  have e := ob_eq h.nd hx ho h1
  subst e
  have h3 := h.nz o ho
  have h4 := h.inn0 ho (by omega)
  rw [h4] at hm
  cases hm
theorem setc_mem {h c : Int} {o : Ob} (ho : o ∈ setc L h c) : ∃ p ∈ L, o.h = p.h ∧ o.outer = p.outer ∧ o.value = p.value ∧ o.links = p.links ∧ o.inners = p.inners ∧ (o.count = p.count ∨ (p.h = h ∧ o.count = c)) := by
  obtain ⟨p, hp, rfl⟩ := mem_setc.1 ho
  by_cases e : p.h = h
  · exact ⟨p, hp, by rw [if_pos e], by rw [if_pos e], by rw [if_pos e], by rw [if_pos e], by rw [if_pos e], .inr ⟨e, by rw [if_pos e]⟩⟩
  · exact ⟨p, hp, by rw [if_neg e], by rw [if_neg e], by rw [if_neg e], by rw [if_neg e], by rw [if_neg e], .inl (by rw [if_neg e])⟩
theorem mem_setc' {h c : Int} {p : Ob} (hp : p ∈ L) : ∃ o ∈ setc L h c, o.h = p.h ∧ o.outer = p.outer ∧ o.inners = p.inners :=
  ⟨_, mem_setc.2 ⟨p, hp, rfl⟩, by split <;> rfl, by split <;> rfl, by split <;> rfl⟩
theorem HIn.setc (h : HIn top L) (x c : Int) (hc : 0 ≤ c ∧ c ≤ top) : HIn top (setc L x c) := by
  refine ⟨h.nd.setc x c, ?_, ?_, ?_, ?_, ?_, ?_, ?_, ?_⟩
  · intro o ho
    obtain ⟨p, hp, h1, _⟩ := setc_mem ho
    rw [h1]; exact h.nz p hp
  · intro o ho h0
    obtain ⟨p, hp, h1, h2, _⟩ := setc_mem ho
    obtain ⟨y, hy, h3, h4, h5⟩ := h.out p hp (by rw [← h2]; exact h0)
    obtain ⟨z, hz, h6, h7, h8⟩ := mem_setc' (h := x) (c := c) hy
    exact ⟨z, hz, by rw [h6, h3, h2], by rw [h7, h4], by rw [h8, h1]; exact h5⟩
  · intro o ho hd hm
    obtain ⟨p, hp, h1, h2, _, _, h3, _⟩ := setc_mem ho
    obtain ⟨y, hy, h4, h5⟩ := h.inn p hp hd (by rw [← h3]; exact hm)
    obtain ⟨z, hz, h6, h7, _⟩ := mem_setc' (h := x) (c := c) hy
    exact ⟨z, hz, by rw [h6, h4], by rw [h7, h5, h1]⟩
  · intro o ho
    obtain ⟨p, hp, _, _, _, _, h3, _⟩ := setc_mem ho
    rw [h3]; exact h.idp p hp
  · intro o ho
    obtain ⟨p, hp, _, _, _, _, _, h3 | ⟨_, h3⟩⟩ := setc_mem ho
    · rw [h3]; exact h.cnt p hp
    · rw [h3]; exact hc
  · intro o ho
    obtain ⟨p, hp, _, _, h3, _⟩ := setc_mem ho
    rw [h3]; exact h.val p hp
  · intro o ho
    obtain ⟨p, hp, _, h3, _⟩ := setc_mem ho
    rw [h3]; exact h.oub p hp
  · intro o ho
    obtain ⟨p, hp, _, _, _, h3, _⟩ := setc_mem ho
    rw [h3]; exact h.lnk p hp
theorem awa_some {x : Int} {o : Ob} (e : fnd L x = some o) : awa L x = (L.filter fun y => !(y.h == x || o.inners.contains y.h), o.links ++ (o.inners.filterMap (fnd L)).flatMap (·.links), x :: o.inners) := by
  unfold awa
  rw [e]
theorem awa_none {x : Int} (e : fnd L x = none) : awa L x = (L, [], []) := by
  unfold awa
  rw [e]
/-- A whole goes. -/
theorem HIn.awa (h : HIn top L) (x : Int) (hw : ∀ o ∈ L, o.h = x → o.outer = 0) : HIn top (awa L x).1 := by
  cases hf : fnd L x with
  | none => rw [awa_none hf]; exact h
  | some w =>
    rw [awa_some hf]
    obtain ⟨hwm, hwx⟩ := fnd_some hf
    have hw0 := hw w hwm hwx
    have hmem : ∀ {o : Ob}, o ∈ L.filter (fun y => !(y.h == x || w.inners.contains y.h)) ↔ o ∈ L ∧ o.h ≠ x ∧ o.h ∉ w.inners := by
      intro o
      rw [List.mem_filter]
      simp
    refine ⟨h.nd.sublist (List.Sublist.map _ (List.filter_sublist ..)), fun o ho => h.nz o (hmem.1 ho).1, ?_, ?_, fun o ho => h.idp o (hmem.1 ho).1, fun o ho => h.cnt o (hmem.1 ho).1, fun o ho => h.val o (hmem.1 ho).1, fun o ho => h.oub o (hmem.1 ho).1, fun o ho => h.lnk o (hmem.1 ho).1⟩
    · intro o ho h0
      obtain ⟨ho1, ho2, ho3⟩ := hmem.1 ho
      obtain ⟨y, hy, h1, h2, h3⟩ := h.out o ho1 h0
      refine ⟨y, hmem.2 ⟨hy, fun e => ?_, fun e => ?_⟩, h1, h2, h3⟩
      · have : y = w := ob_eq h.nd hwm hy (e.trans hwx.symm)
        subst this
        exact ho3 h3
      · obtain ⟨z, hz, h4, h5⟩ := h.inn w hwm _ e
        have : z = y := ob_eq h.nd hy hz h4
        subst this
        have := h.nz w hwm
        omega
    · intro y hy hd hm
      obtain ⟨hy1, hy2, hy3⟩ := hmem.1 hy
      obtain ⟨o, ho, h1, h2⟩ := h.inn y hy1 hd hm
      refine ⟨o, hmem.2 ⟨ho, fun e => ?_, fun e => ?_⟩, h1, h2⟩
      · have : o = w := ob_eq h.nd hwm ho (e.trans hwx.symm)
        subst this
        have := h.nz y hy1
        omega
      · obtain ⟨z, hz, h4, h5⟩ := h.inn w hwm _ e
        have : z = o := ob_eq h.nd ho hz h4
        subst this
        exact hy2 (by rw [← h2, h5, hwx])
/-- Who waits is a whole. -/
def WW (L : HL) (ws : List Int) : Prop := ∀ x ∈ ws, ∀ o ∈ L, o.h = x → o.outer = 0
theorem WW.sub {L L' : HL} {ws : List Int} (h : WW L ws) (hs : ∀ o ∈ L', ∃ p ∈ L, p.h = o.h ∧ p.outer = o.outer) : WW L' ws := fun x hx o ho e => by
  obtain ⟨p, hp, h1, h2⟩ := hs o ho
  rw [← h2]
  exact h x hx p hp (h1.trans e)
theorem let1_sub (l : Lk) : ∀ o ∈ (let1 L l).1, ∃ p ∈ L, p.h = o.h ∧ p.outer = o.outer := by
  intro o ho
  unfold let1 at ho
  split at ho
  · exact ⟨o, ho, rfl, rfl⟩
  · split at ho
    · split at ho
      · exact ⟨o, ho, rfl, rfl⟩
      · split at ho
        · exact ⟨o, ho, rfl, rfl⟩
        · obtain ⟨p, hp, h1, h2, _⟩ := setc_mem ho
          exact ⟨p, hp, h1.symm, h2.symm⟩
    · exact ⟨o, ho, rfl, rfl⟩
theorem HIn.let1 (h : HIn top L) (l : Lk) : HIn top (let1 L l).1 ∧ WW (Go.Proofs.Ytmkajdfajcodjaa.let1 L l).1 (Go.Proofs.Ytmkajdfajcodjaa.let1 L l).2.1 := by
  have hsub := let1_sub (L := L) l
  unfold Go.Proofs.Ytmkajdfajcodjaa.let1 at hsub ⊢
  split
  · exact ⟨h, fun x hx => by simp at hx⟩
  · split
    · cases hw : whl L l.h with
      | none => exact ⟨h, fun x hx => by simp at hx⟩
      | some w =>
        simp only
        obtain ⟨h1, h2⟩ := whl_some h hw
        split
        · exact ⟨h, fun x hx => by simp at hx⟩
        · rename_i hc
          have h3 := h.cnt w h1
          refine ⟨h.setc _ _ (by omega), fun x hx o ho e => ?_⟩
          simp only at hx ho
          split at hx
          · simp at hx
            subst hx
            obtain ⟨p, hp, h4, h5, _⟩ := setc_mem ho
            have : p = w := ob_eq h.nd h1 hp (h4.symm.trans e)
            rw [h5, this, h2]
          · simp at hx
    · exact ⟨h, fun x hx => by simp at hx⟩
end
theorem HIn.letg {top : Int} : ∀ {P : List Lk} {L : HL} {ws : List Int}, HIn top L → WW L ws → HIn top (letg L P).1 ∧ WW (Go.Proofs.Ytmkajdfajcodjaa.letg L P).1 (ws ++ (Go.Proofs.Ytmkajdfajcodjaa.letg L P).2.1)
  | [], L, ws, h, hw => ⟨h, by simpa [Go.Proofs.Ytmkajdfajcodjaa.letg] using hw⟩
  | l :: r, L, ws, h, hw => by
    obtain ⟨h1, h2⟩ := h.let1 l
    have h3 : WW (Go.Proofs.Ytmkajdfajcodjaa.let1 L l).1 (ws ++ (Go.Proofs.Ytmkajdfajcodjaa.let1 L l).2.1) := fun x hx => by
      rcases List.mem_append.1 hx with hx | hx
      · exact hw.sub (let1_sub l) x hx
      · exact h2 x hx
    have ih := HIn.letg (P := r) h1 h3
    unfold Go.Proofs.Ytmkajdfajcodjaa.letg
    refine ⟨ih.1, ?_⟩
    rw [← List.append_assoc]
    exact ih.2
theorem HIn.goes {top : Int} {L L' : HL} {ws g f : List Int} (hg : Goes L ws L' g f) : HIn top L → WW L ws → HIn top L' := by
  induction hg with
  | nil => exact fun h _ => h
  | cons hg ih =>
    intro h hw
    rename_i L L' x ws g f
    have h1 := h.awa x (hw x (by simp))
    have h2 : WW (Go.Proofs.Ytmkajdfajcodjaa.awa L x).1 ws := (show WW L ws from fun y hy => hw y (by simp [hy])).sub fun o ho => by
      cases hf : fnd L x with
      | none => rw [awa_none hf] at ho; exact ⟨o, ho, rfl, rfl⟩
      | some w => rw [awa_some hf] at ho; exact ⟨o, (List.mem_filter.1 ho).1, rfl, rfl⟩
    obtain ⟨h3, h4⟩ := h1.letg (P := (Go.Proofs.Ytmkajdfajcodjaa.awa L x).2.1) h2
    exact ih h3 h4
theorem setl_mem {L : HL} {h : Int} {s : Nat} {l : Lk} {o : Ob} (ho : o ∈ setl L h s l) : ∃ p ∈ L, o.h = p.h ∧ o.outer = p.outer ∧ o.value = p.value ∧ o.inners = p.inners ∧ o.count = p.count ∧ (o.links = p.links ∨ (p.h = h ∧ o.links = p.links.set s l)) := by
  obtain ⟨p, hp, rfl⟩ := mem_setl.1 ho
  by_cases e : p.h = h
  · exact ⟨p, hp, by rw [if_pos e], by rw [if_pos e], by rw [if_pos e], by rw [if_pos e], by rw [if_pos e], .inr ⟨e, by rw [if_pos e]⟩⟩
  · exact ⟨p, hp, by rw [if_neg e], by rw [if_neg e], by rw [if_neg e], by rw [if_neg e], by rw [if_neg e], .inl (by rw [if_neg e])⟩
theorem mem_setl' {L : HL} {h : Int} {s : Nat} {l : Lk} {p : Ob} (hp : p ∈ L) : ∃ o ∈ setl L h s l, o.h = p.h ∧ o.outer = p.outer ∧ o.inners = p.inners :=
  ⟨_, mem_setl.2 ⟨p, hp, rfl⟩, by split <;> rfl, by split <;> rfl, by split <;> rfl⟩
theorem HIn.setl {top : Int} {L : HL} (h : HIn top L) (x : Int) (s : Nat) (l : Lk) (hl : Nm l.kind ∧ Hn l.h) : HIn top (setl L x s l) := by
  refine ⟨by unfold Nd; rw [setl_h]; exact h.nd, ?_, ?_, ?_, ?_, ?_, ?_, ?_, ?_⟩
  · intro o ho
    obtain ⟨p, hp, h1, _⟩ := setl_mem ho
    rw [h1]; exact h.nz p hp
  · intro o ho h0
    obtain ⟨p, hp, h1, h2, _⟩ := setl_mem ho
    obtain ⟨y, hy, h3, h4, h5⟩ := h.out p hp (by rw [← h2]; exact h0)
    obtain ⟨z, hz, h6, h7, h8⟩ := mem_setl' (h := x) (s := s) (l := l) hy
    exact ⟨z, hz, by rw [h6, h3, h2], by rw [h7, h4], by rw [h8, h1]; exact h5⟩
  · intro o ho hd hm
    obtain ⟨p, hp, h1, h2, _, h3, _⟩ := setl_mem ho
    obtain ⟨y, hy, h4, h5⟩ := h.inn p hp hd (by rw [← h3]; exact hm)
    obtain ⟨z, hz, h6, h7, _⟩ := mem_setl' (h := x) (s := s) (l := l) hy
    exact ⟨z, hz, by rw [h6, h4], by rw [h7, h5, h1]⟩
  · intro o ho
    obtain ⟨p, hp, _, _, _, h3, _⟩ := setl_mem ho
    rw [h3]; exact h.idp p hp
  · intro o ho
    obtain ⟨p, hp, _, _, _, _, h3, _⟩ := setl_mem ho
    rw [h3]; exact h.cnt p hp
  · intro o ho
    obtain ⟨p, hp, _, _, h3, _⟩ := setl_mem ho
    rw [h3]; exact h.val p hp
  · intro o ho
    obtain ⟨p, hp, _, h3, _⟩ := setl_mem ho
    rw [h3]; exact h.oub p hp
  · intro o ho
    obtain ⟨p, hp, _, _, _, _, _, h3 | ⟨_, h3⟩⟩ := setl_mem ho
    · rw [h3]; exact h.lnk p hp
    · rw [h3, List.length_set]
      have h4 := h.lnk p hp
      refine ⟨h4.1, fun y hy => ?_⟩
      rcases List.mem_or_eq_of_mem_set hy with hy | hy
      · exact h4.2 y hy
      · subst hy; exact hl
theorem addIn_mem {L : HL} {w h : Int} {o : Ob} (ho : o ∈ addIn L w h) : ∃ p ∈ L, o.h = p.h ∧ o.outer = p.outer ∧ o.value = p.value ∧ o.links = p.links ∧ o.count = p.count ∧ (o.inners = p.inners ∨ (w ≠ 0 ∧ p.h = w ∧ o.inners = p.inners ++ [h])) := by
  unfold addIn at ho
  split at ho
  · exact ⟨o, ho, rfl, rfl, rfl, rfl, rfl, .inl rfl⟩
  · rename_i h0
    obtain ⟨p, hp, rfl⟩ := List.mem_map.1 ho
    by_cases e : p.h = w
    · exact ⟨p, hp, by rw [if_pos e], by rw [if_pos e], by rw [if_pos e], by rw [if_pos e], by rw [if_pos e], .inr ⟨h0, e, by rw [if_pos e]⟩⟩
    · exact ⟨p, hp, by rw [if_neg e], by rw [if_neg e], by rw [if_neg e], by rw [if_neg e], by rw [if_neg e], .inl (by rw [if_neg e])⟩
theorem mem_addIn {L : HL} {w h : Int} {p : Ob} (hp : p ∈ L) : ∃ o ∈ addIn L w h, o.h = p.h ∧ o.outer = p.outer ∧ (∀ x ∈ p.inners, x ∈ o.inners) ∧ (w ≠ 0 → p.h = w → h ∈ o.inners) := by
  unfold addIn
  split
  · rename_i h0
    exact ⟨p, hp, rfl, rfl, fun x hx => hx, fun k => absurd h0 k⟩
  · by_cases e : p.h = w
    · exact ⟨_, List.mem_map.2 ⟨p, hp, rfl⟩, by rw [if_pos e], by rw [if_pos e], fun x hx => by rw [if_pos e]; simp [hx], fun _ _ => by rw [if_pos e]; simp⟩
    · exact ⟨_, List.mem_map.2 ⟨p, hp, rfl⟩, by rw [if_neg e], by rw [if_neg e], fun x hx => by rw [if_neg e]; exact hx, fun _ k => absurd k e⟩
theorem addIn_h (L : HL) (w h : Int) : (addIn L w h).map (·.h) = L.map (·.h) := by
  unfold addIn
  split
  · rfl
  · rw [List.map_map]
    refine List.map_congr_left fun o _ => ?_
    simp only [Function.comp]
    split <;> rfl
theorem HIn.make {top : Int} {L : HL} (h : HIn top L) (ht : 1 ≤ top) {hd w : Int} {n : Nat} (hb : 1 ≤ hd ∧ hd ≤ 18446744073709551615) (hn : ∀ o ∈ L, o.h ≠ hd) (h8 : n ≤ 8) (hw : w ≠ 0 → ∃ o ∈ L, o.h = w ∧ o.outer = 0) (hwb : Hn w) :
    HIn top (addIn L w hd ++ [newOb hd w n]) := by
  have hmem : ∀ {o : Ob}, o ∈ addIn L w hd ++ [newOb hd w n] ↔ o ∈ addIn L w hd ∨ o = newOb hd w n := by intro o; simp
  refine ⟨?_, ?_, ?_, ?_, ?_, ?_, ?_, ?_, ?_⟩
  · unfold Nd
    rw [List.map_append, addIn_h, List.nodup_append]
    refine ⟨h.nd, by simp, fun a ha b hb => ?_⟩
    obtain ⟨o, ho, rfl⟩ := List.mem_map.1 ha
    simp [newOb] at hb
    subst hb
    exact hn o ho
  · intro o ho
    rcases hmem.1 ho with ho | rfl
    · obtain ⟨p, hp, h1, _⟩ := addIn_mem ho
      rw [h1]; exact h.nz p hp
    · exact hb
  · intro o ho h0
    rcases hmem.1 ho with ho | rfl
    · obtain ⟨p, hp, h1, h2, _⟩ := addIn_mem ho
      obtain ⟨y, hy, h3, h4, h5⟩ := h.out p hp (by rw [← h2]; exact h0)
      obtain ⟨z, hz, h6, h7, h8, _⟩ := mem_addIn (w := w) (h := hd) hy
      exact ⟨z, hmem.2 (.inl hz), by rw [h6, h3, h2], by rw [h7, h4], by rw [h1]; exact h8 _ h5⟩
    · obtain ⟨y, hy, h1, h2⟩ := hw h0
      obtain ⟨z, hz, h6, h7, _, h8⟩ := mem_addIn (w := w) (h := hd) hy
      exact ⟨z, hmem.2 (.inl hz), by rw [h6, h1]; rfl, by rw [h7, h2], h8 h0 h1⟩
  · intro x hx a ha
    rcases hmem.1 hx with hx | rfl
    · obtain ⟨p, hp, h1, _, _, _, _, h2 | ⟨h0, h2, h3⟩⟩ := addIn_mem hx
      · obtain ⟨y, hy, h4, h5⟩ := h.inn p hp a (by rw [← h2]; exact ha)
        obtain ⟨z, hz, h6, h7, _⟩ := mem_addIn (w := w) (h := hd) hy
        exact ⟨z, hmem.2 (.inl hz), by rw [h6, h4], by rw [h7, h5, h1]⟩
      · rw [h3] at ha
        rcases List.mem_append.1 ha with ha | ha
        · obtain ⟨y, hy, h4, h5⟩ := h.inn p hp a ha
          obtain ⟨z, hz, h6, h7, _⟩ := mem_addIn (w := w) (h := hd) hy
          exact ⟨z, hmem.2 (.inl hz), by rw [h6, h4], by rw [h7, h5, h1]⟩
        · simp at ha
          subst ha
          exact ⟨_, hmem.2 (.inr rfl), rfl, by rw [h1, h2]; rfl⟩
    · simp [newOb] at ha
  · intro x hx
    rcases hmem.1 hx with hx | rfl
    · obtain ⟨p, hp, _, _, _, _, _, h2 | ⟨_, _, h3⟩⟩ := addIn_mem hx
      · rw [h2]; exact h.idp p hp
      · rw [h3, List.nodup_append]
        refine ⟨h.idp p hp, by simp, fun a ha b hb => ?_⟩
        simp at hb
        subst hb
        obtain ⟨y, hy, h4, _⟩ := h.inn p hp a ha
        rw [← h4]
        exact hn y hy
    · simp [newOb]
  · intro o ho
    rcases hmem.1 ho with ho | rfl
    · obtain ⟨p, hp, _, _, _, _, h1, _⟩ := addIn_mem ho
      rw [h1]; exact h.cnt p hp
    · simp [newOb]; exact ht
  · intro o ho
    rcases hmem.1 ho with ho | rfl
    · obtain ⟨p, hp, _, _, h1, _⟩ := addIn_mem ho
      rw [h1]; exact h.val p hp
    · simp [newOb, Nm]
  · intro o ho
    rcases hmem.1 ho with ho | rfl
    · obtain ⟨p, hp, _, h1, _⟩ := addIn_mem ho
      rw [h1]; exact h.oub p hp
    · exact hwb
  · intro o ho
    rcases hmem.1 ho with ho | rfl
    · obtain ⟨p, hp, _, _, _, h1, _⟩ := addIn_mem ho
      rw [h1]; exact h.lnk p hp
    · simp [newOb, Nm, Hn]; omega
end Go.Proofs.Ytmkajdfajcodjaa

namespace Go.Proofs.Ytmkajdfajcodjaa
open Go

theorem letg_h : ∀ {P : List Lk} {L : HL}, (letg L P).1.map (·.h) = L.map (·.h)
  | [], L => rfl
  | l :: r, L => by
    unfold letg
    rw [letg_h]
    unfold let1
    split
    · rfl
    · split
      · split
        · rfl
        · split
          · rfl
          · exact setc_h _ _ _
      · rfl
theorem goes_h {top : Int} {L L' : HL} {ws g f : List Int} (hg : Goes L ws L' g f) : HIn top L → WW L ws → L'.map (·.h) = (L.map (·.h)).filter (fun x => !g.contains x) ∧ (∀ x ∈ g, x ∈ L.map (·.h)) ∧ g.Nodup := by
  induction hg with
  | nil => exact fun _ _ => ⟨(List.filter_eq_self.2 (by simp)).symm, by simp, by simp⟩
  | cons hg ih =>
    intro h hw
    rename_i L L' x ws g f
    have h1 := h.awa x (hw x (by simp))
    have h2 : WW (awa L x).1 ws := (show WW L ws from fun y hy => hw y (by simp [hy])).sub fun o ho => by
      cases hf : fnd L x with
      | none => rw [awa_none hf] at ho; exact ⟨o, ho, rfl, rfl⟩
      | some w => rw [awa_some hf] at ho; exact ⟨o, (List.mem_filter.1 ho).1, rfl, rfl⟩
    obtain ⟨h3, h4⟩ := h1.letg (P := (awa L x).2.1) h2
    obtain ⟨k1, k2, k3⟩ := ih h3 h4
    rw [letg_h] at k1 k2
    cases hf : fnd L x with
    | none =>
      rw [awa_none hf] at k1 k2
      simp only [awa_none hf, List.nil_append]
      exact ⟨k1, k2, k3⟩
    | some w =>
      obtain ⟨hwm, hwx⟩ := fnd_some hf
      rw [awa_some hf] at k1 k2
      simp only [awa_some hf]
      have e : (L.filter fun y => !(y.h == x || w.inners.contains y.h)).map (·.h) = (L.map (·.h)).filter fun y => !(y == x || w.inners.contains y) := by
        rw [List.filter_map]; rfl
      simp only [e] at k1 k2
      refine ⟨?_, ?_, ?_⟩
      · rw [k1, List.filter_filter]
        refine List.filter_congr fun y _ => ?_
        simp only [List.cons_append, List.contains_cons, List.contains_append, Bool.not_or, Bool.and_comm]
        try (cases (y == x) <;> cases w.inners.contains y <;> cases g.contains y <;> rfl)
      · intro y hy
        rcases List.mem_append.1 hy with hy | hy
        · rcases List.mem_cons.1 hy with rfl | hy
          · exact List.mem_map.2 ⟨w, hwm, hwx⟩
          · obtain ⟨o, ho, h5, _⟩ := h.inn w hwm y hy
            exact List.mem_map.2 ⟨o, ho, h5⟩
        · exact (List.mem_filter.1 (k2 y hy)).1
      · have hself := h.self hwm
        rw [hwx] at hself
        rw [List.nodup_append]
        refine ⟨List.nodup_cons.2 ⟨hself, h.idp w hwm⟩, k3, fun a ha b hb e2 => ?_⟩
        subst e2
        have h6 := (List.mem_filter.1 (k2 a hb)).2
        rcases List.mem_cons.1 ha with rfl | ha
        · simp at h6
        · simp [ha] at h6
theorem drr_at {A A' : Ar} {l : List Int} (h : DrR A l A') : Ok A → Ok A' ∧ (∀ j r, r.t = true → (A'.L[j]? = some r ↔ (A.L[j]? = some r ∧ hand j r.g ∉ l))) ∧ ∀ hd, Past A hd → Past A' hd := by
  induction h with
  | nil => exact fun h => ⟨h, by simp, fun _ h => h⟩
  | cons hf hr ih =>
    intro hA
    rename_i A A' h l i sp
    obtain ⟨k1, k2, k3⟩ := ih (drop_ok hA hf.1 hf.2.1)
    refine ⟨k1, fun j r ht => ?_, fun hd hp => k3 hd (hp.drop hf.1 hf.2.1 hA)⟩
    rw [k2 j r ht, drop_at hf.1 j r ht]
    constructor
    · rintro ⟨⟨h1, h2⟩, h3⟩
      refine ⟨h1, fun hm => ?_⟩
      rcases List.mem_cons.1 hm with hm | hm
      · have h4 := hA.lt h1
        have h5 := hA.lt hf.1
        exact h2 (hand_inj2 (by omega) (by omega) (hm.trans hf.2.2)).1
      · exact h3 hm
    · rintro ⟨h1, h2⟩
      refine ⟨⟨h1, fun e => ?_⟩, fun hm => h2 (List.mem_cons_of_mem _ hm)⟩
      subst e
      rw [hf.1] at h1
      cases h1
      exact h2 (List.mem_cons.2 (.inl hf.2.2.symm))
/-- All that always holds. -/
structure HsI (s : Hs) : Prop where
  ok : HOk s
  inv : HIn s.top s.L
  past : ∀ h ∈ s.G, Past s.A h
  t1 : 1 ≤ s.top
  t2 : s.top ≤ 4294967295
theorem HOk.same {s : Hs} (h : HOk s) {L' : HL} (he : L'.map (·.h) = s.L.map (·.h)) : HOk { s with L := L' } := by
  have hm : ∀ o ∈ L', ∃ p ∈ s.L, p.h = o.h := fun o ho => by
    have : o.h ∈ s.L.map (·.h) := by rw [← he]; exact List.mem_map.2 ⟨o, ho, rfl⟩
    obtain ⟨p, hp, e⟩ := List.mem_map.1 this
    exact ⟨p, hp, e⟩
  have hb : ∀ p ∈ s.L, ∃ o ∈ L', o.h = p.h := fun p hp => by
    have : p.h ∈ L'.map (·.h) := by rw [he]; exact List.mem_map.2 ⟨p, hp, rfl⟩
    obtain ⟨o, ho, e⟩ := List.mem_map.1 this
    exact ⟨o, ho, e⟩
  refine ⟨h.aok, fun o ho => ?_, by unfold Nd; rw [he]; exact h.nd, h.gnd, fun o ho => ?_, fun i sp h1 h2 => ?_, h.nz⟩
  · obtain ⟨p, hp, e⟩ := hm o ho
    rw [← e]; exact h.has p hp
  · obtain ⟨p, hp, e⟩ := hm o ho
    rw [← e]; exact h.sub p hp
  · obtain ⟨p, hp, e⟩ := h.tak i sp h1 h2
    obtain ⟨o, ho, e2⟩ := hb p hp
    exact ⟨o, ho, e2.trans e⟩
theorem HsI.new {m : Nat} {t : Int} (hm : 1 ≤ m ∧ m ≤ 256) (ht : 1 ≤ t ∧ t ≤ 4294967295) : HsI ⟨t, Go.Proofs.Ytmkajdfajcodjaa.new m 1, [], []⟩ :=
  ⟨⟨new_ok (by omega) (by omega), by simp, by simp [Nd], by simp, by simp, by simp [Go.Proofs.Ytmkajdfajcodjaa.new], by simp⟩,
    ⟨by simp [Nd], by simp, by simp, by simp, by simp, by simp, by simp, by simp, by simp⟩, by simp, ht.1, ht.2⟩
theorem MkR.hsi {s s' : Hs} {slots outer h er : Int} (hm : MkR s slots outer s' h er) (hs : HsI s) (ho : Hn outer) : HsI s' := by
  cases hm with
  | arg => exact hs
  | stale => exact hs
  | inner => exact hs
  | full => exact hs
  | ok h1 h0 hp =>
    rename_i i g A'
    have hA := hs.ok.aok
    have hfresh : ∀ x ∈ s.G, x ≠ hand i g := fun x hx e => hp.not_past hA (e ▸ hs.past x hx)
    have hn : ∀ o ∈ s.L, o.h ≠ hand i g := fun o ho => hfresh _ (hs.ok.sub o ho)
    have hspot : A'.L[i]? = some ⟨0, g, true⟩ := (hp.at hA i ⟨0, g, true⟩ rfl).2 (.inr ⟨rfl, rfl⟩)
    have hbd := hand_bd (hp.ok hA) hspot
    have hin := hs.inv.make hs.t1 hbd hn (n := slots.toNat) (by omega) (w := outer) (fun h => by
      obtain ⟨o, h2, h3⟩ := h0 h
      exact ⟨o, (fnd_some h2).1, (fnd_some h2).2, h3⟩) ho
    have hold : ∀ o ∈ addIn s.L outer (hand i g) ++ [newOb (hand i g) outer slots.toNat], (∃ p ∈ s.L, p.h = o.h) ∨ o.h = hand i g := fun o ho => by
      rcases List.mem_append.1 ho with ho | ho
      · obtain ⟨p, hp, e, _⟩ := addIn_mem ho
        exact .inl ⟨p, hp, e.symm⟩
      · simp at ho
        subst ho
        exact .inr rfl
    refine ⟨⟨hp.ok hA, fun o ho => ?_, hin.nd, ?_, fun o ho => ?_, fun j r h2 h3 => ?_, fun x hx => ?_⟩, hin, fun x hx => ?_, hs.t1, hs.t2⟩
    · rcases hold o ho with ⟨p, hpp, e⟩ | e
      · obtain ⟨j, sp, f1, f2, f3⟩ := hs.ok.has p hpp
        refine ⟨j, sp, (hp.at hA j sp f2).2 (.inl ⟨f1, fun k => ?_⟩), f2, e ▸ f3⟩
        subst k
        rw [hp.free hA sp f1] at f2
        cases f2
      · exact ⟨i, _, hspot, rfl, e⟩
    · rw [List.nodup_append]
      exact ⟨hs.ok.gnd, by simp, fun a ha b hb => by simp at hb; subst hb; exact hfresh a ha⟩
    · rcases hold o ho with ⟨p, hpp, e⟩ | e
      · exact List.mem_append_left _ (e ▸ hs.ok.sub p hpp)
      · rw [e]; simp
    · rcases (hp.at hA j r h3).1 h2 with ⟨h4, h5⟩ | ⟨rfl, rfl⟩
      · obtain ⟨p, hpp, e⟩ := hs.ok.tak j r h4 h3
        obtain ⟨o, ho, e2, _⟩ := mem_addIn (w := outer) (h := hand i g) hpp
        exact ⟨o, List.mem_append_left _ ho, e2.trans e⟩
      · exact ⟨_, List.mem_append_right _ (List.mem_singleton.2 rfl), rfl⟩
    · rcases List.mem_append.1 hx with hx | hx
      · exact hs.ok.nz x hx
      · simp at hx; subst hx; exact hbd
    · rcases List.mem_append.1 hx with hx | hx
      · exact (hs.past x hx).put hp
      · simp at hx; subst hx; exact hp.past hA
theorem UpR.hsi {s s' : Hs} {h n er : Int} (hu : UpR s h s' n er) (hs : HsI s) : HsI s' := by
  cases hu with
  | stale => exact hs
  | top => exact hs
  | ok w hw hc =>
    have h1 := (whl_some hs.inv hw).1
    have h2 := hs.inv.cnt w h1
    exact ⟨hs.ok.same (setc_h _ _ _), hs.inv.setc _ _ (by omega), hs.past, hs.t1, hs.t2⟩
/-- Objects went, and their places were dropped. -/
theorem HsI.gone {s : Hs} {L1 L' : HL} {ws g f : List Int} {A' : Ar} (hs : HsI s) (h1 : L1.map (·.h) = s.L.map (·.h)) (hin : HIn s.top L1) (hw : WW L1 ws) (hg : Goes L1 ws L' g f) (ha : DrR s.A g A') : HsI { s with L := L', A := A' } := by
  obtain ⟨k1, k2, k3⟩ := goes_h hg hin hw
  obtain ⟨a1, a2, a3⟩ := drr_at ha hs.ok.aok
  rw [h1] at k1 k2
  have hin' := hin.goes hg hw
  have hm : ∀ x, x ∈ L'.map (·.h) ↔ x ∈ s.L.map (·.h) ∧ x ∉ g := fun x => by rw [k1, List.mem_filter]; simp
  refine ⟨⟨a1, fun o ho => ?_, hin'.nd, hs.ok.gnd, fun o ho => ?_, fun i sp h2 h3 => ?_, hs.ok.nz⟩, hin', fun x hx => a3 x (hs.past x hx), hs.t1, hs.t2⟩
  · obtain ⟨h4, h5⟩ := (hm o.h).1 (List.mem_map.2 ⟨o, ho, rfl⟩)
    obtain ⟨p, hp, e⟩ := List.mem_map.1 h4
    obtain ⟨i, sp, f1, f2, f3⟩ := hs.ok.has p hp
    exact ⟨i, sp, (a2 i sp f2).2 ⟨f1, by rw [← f3, e]; exact h5⟩, f2, by rw [← e]; exact f3⟩
  · obtain ⟨h4, h5⟩ := (hm o.h).1 (List.mem_map.2 ⟨o, ho, rfl⟩)
    obtain ⟨p, hp, e⟩ := List.mem_map.1 h4
    rw [← e]; exact hs.ok.sub p hp
  · obtain ⟨h4, h5⟩ := (a2 i sp h3).1 h2
    obtain ⟨p, hp, e⟩ := hs.ok.tak i sp h4 h3
    have : hand i sp.g ∈ L'.map (·.h) := (hm _).2 ⟨List.mem_map.2 ⟨p, hp, e⟩, h5⟩
    obtain ⟨o, ho, e2⟩ := List.mem_map.1 this
    exact ⟨o, ho, e2⟩
theorem WW.nil (L : HL) : WW L [] := fun x hx => by cases hx
theorem DnR.hsi {s s' : Hs} {h er : Int} {g f : List Int} (hd : DnR s h s' g f er) (hs : HsI s) : HsI s' := by
  cases hd with
  | stale => exact hs
  | ok o hf hd ha =>
    obtain ⟨f2, hg, _⟩ := hd
    obtain ⟨h1, h2⟩ := hs.inv.letg (P := [⟨1, h⟩]) (WW.nil _)
    exact hs.gone letg_h h1 (by simpa using h2) hg ha
theorem PuR.hsi {s s' : Hs} {h slot er : Int} {x : Lk} {g f : List Int} (hp : PuR s h slot x s' g f er) (hs : HsI s) (hx : Nm x.kind ∧ Hn x.h) : HsI s' := by
  cases hp with
  | stale => exact hs
  | arg => exact hs
  | no => exact hs
  | obj o hf hsl hk hu ho hp ha =>
    rename_i s1 n old L' A'
    obtain ⟨f2, hg, _⟩ := hp
    have hs1 := hu.hsi hs
    have et : s1.top = s.top := by cases hu; rfl
    have eL : s1.L.map (·.h) = s.L.map (·.h) := by cases hu; exact setc_h _ _ _
    have hi1 := hs1.inv.setl h slot.toNat x hx
    rw [et] at hi1
    obtain ⟨h1, h2⟩ := hi1.letg (P := [old]) (WW.nil _)
    exact hs.gone (letg_h.trans ((setl_h _ _ _ _).trans eL)) h1 (by simpa using h2) hg ha
  | oth o hf hsl hk ho hp ha =>
    rename_i old L' A'
    obtain ⟨f2, hg, _⟩ := hp
    obtain ⟨h1, h2⟩ := (hs.inv.setl h slot.toNat x hx).letg (P := [old]) (WW.nil _)
    exact hs.gone (letg_h.trans (setl_h _ _ _ _)) h1 (by simpa using h2) hg ha
end Go.Proofs.Ytmkajdfajcodjaa

namespace Go.Proofs.Ytmkajdfajcodjaa
open Go Go.ChangeShapes Go.WideShapes Go.ChangeAt Go.RowKit

/-- Whose a block is, and which part of it. -/
abbrev Lab := Int × Nat
def outL : Lab := (-100, 0)
/-- All new blocks are l's. -/
def nw (F : Nat → Lab) (n : Nat) (l : Lab) : Nat → Lab := fun k => if k < n then F k else l
theorem nw_lt {F : Nat → Lab} {n k : Nat} {l : Lab} (h : k < n) : nw F n l k = F k := if_pos h
theorem nw_ge {F : Nat → Lab} {n k : Nat} {l : Lab} (h : n ≤ k) : nw F n l k = l := if_neg (by omega)
def lkv (l : List Lk) : List Value := l.flatMap fun x => [.int .i64 x.kind, .int .u64 x.h]
theorem lkv_len (l : List Lk) : (lkv l).length = l.length * 2 := by
  induction l with
  | nil => rfl
  | cons a l ih =>
    have : lkv (a :: l) = [.int .i64 a.kind, .int .u64 a.h] ++ lkv l := by simp [lkv]
    rw [this, List.length_append, ih, List.length_cons, List.length_cons, List.length_cons, List.length_nil]
    omega
theorem lkv_app (l m : List Lk) : lkv (l ++ m) = lkv l ++ lkv m := by simp [lkv]
theorem lkv_at : ∀ (l : List Lk) (j : Nat) (x : Lk), l[j]? = some x → (lkv l)[j * 2]? = some (.int .i64 x.kind) ∧ (lkv l)[j * 2 + 1]? = some (.int .u64 x.h)
  | a :: l, 0, x, h => by
    simp at h
    subst h
    exact ⟨rfl, rfl⟩
  | a :: l, j + 1, x, h => by
    have ih := lkv_at l j x (by simpa using h)
    have e : lkv (a :: l) = .int .i64 a.kind :: .int .u64 a.h :: lkv l := rfl
    rw [e, show (j + 1) * 2 = j * 2 + 1 + 1 by omega]
    simp only [List.getElem?_cons_succ]
    exact ih
theorem lkv_one (l : List Lk) : ∀ u ∈ lkv l, u.oneCell' = true := fun u hu => by
  obtain ⟨s, _, hs⟩ := List.mem_flatMap.1 hu
  simp at hs
  rcases hs with rfl | rfl <;> rfl
theorem lkv_set : ∀ (l : List Lk) (j : Nat) (x : Lk), j < l.length → ((lkv l).set (j * 2) (.int .i64 x.kind)).set (j * 2 + 1) (.int .u64 x.h) = lkv (l.set j x)
  | a :: l, 0, x, _ => rfl
  | a :: l, j + 1, x, h => by
    have ih := lkv_set l j x (by simpa using h)
    have e : lkv (a :: l) = .int .i64 a.kind :: .int .u64 a.h :: lkv l := rfl
    have e2 : lkv ((a :: l).set (j + 1) x) = .int .i64 a.kind :: .int .u64 a.h :: lkv (l.set j x) := rfl
    rw [e, e2, show (j + 1) * 2 = j * 2 + 1 + 1 by omega, show j * 2 + 1 + 1 + 1 = (j * 2 + 1) + 1 + 1 by omega]
    simp only [List.set_cons_succ]
    rw [ih]

/-- An object in memory: its block, its slots, its inners. -/
structure ObC (w : World) (F : Nat → Lab) (b : Nat) (sv iv : Value) (c : Int) (o : Ob) : Prop where
  hb : w.heap[b]? = some (.cells #[sv, .int .i64 o.value, .int .u64 o.outer, iv, .int .u32 c] 114 (0, 0))
  hs : w.ownsRow 0 67 2 sv o.links.length (lkv o.links)
  hi : w.ownsRow 0 TU 1 iv o.inners.length (o.inners.map u64v)
  hc : o.outer = 0 → c = o.count
  fb : F b = (o.h, 0)
  fs : ∀ k, sv.ownBlock = some k → F k = (o.h, 1)
  fi : ∀ k, iv.ownBlock = some k → F k = (o.h, 2)
section
variable {w w' : World} {F F' : Nat → Lab} {b : Nat} {sv iv : Value} {c : Int} {o : Ob} {fp : Nat → Prop}
theorem ObC.c0 (h : ObC w F b sv iv c o) : w.cell? ⟨b, 0, none⟩ = some sv := by rw [cell_of_row w b 0 _ _ _ h.hb]; rfl
theorem ObC.c1 (h : ObC w F b sv iv c o) : w.cell? ⟨b, 1, none⟩ = some (.int .i64 o.value) := by rw [cell_of_row w b 1 _ _ _ h.hb]; rfl
theorem ObC.c2 (h : ObC w F b sv iv c o) : w.cell? ⟨b, 2, none⟩ = some (.int .u64 o.outer) := by rw [cell_of_row w b 2 _ _ _ h.hb]; rfl
theorem ObC.c3 (h : ObC w F b sv iv c o) : w.cell? ⟨b, 3, none⟩ = some iv := by rw [cell_of_row w b 3 _ _ _ h.hb]; rfl
theorem ObC.c4 (h : ObC w F b sv iv c o) : w.cell? ⟨b, 4, none⟩ = some (.int .u32 c) := by rw [cell_of_row w b 4 _ _ _ h.hb]; rfl
theorem ObC.fz (h : ObC w F b sv iv c o) (k : Nat) : w.frozen? ⟨b, k, none⟩ = false := frozen_of_row w b k _ _ h.hb
theorem ObC.lt (h : ObC w F b sv iv c o) : b < w.heap.size := (Array.getElem?_eq_some_iff.1 h.hb).1
theorem ObC.fr (h : ObC w F b sv iv c o) (hf : Fr fp w w') (hd : ∀ k j, F k = (o.h, j) → ¬ fp k) (hF : ∀ k, k < w.heap.size → F' k = F k) : ObC w' F' b sv iv c o :=
  ⟨by rw [hf.block b h.lt (hd b 0 h.fb)]; exact h.hb, hf.owns h.hs (fun k hk => hd k 1 (h.fs k hk)), hf.owns h.hi (fun k hk => hd k 2 (h.fi k hk)), h.hc,
    by rw [hF b h.lt]; exact h.fb, fun k hk => by rw [hF k (h.hs.lt k hk).2]; exact h.fs k hk, fun k hk => by rw [hF k (h.hi.lt k hk).2]; exact h.fi k hk⟩
end
def ObW (w : World) (F : Nat → Lab) (b : Nat) (o : Ob) : Prop := ∃ sv iv c, ObC w F b sv iv c o
theorem ObW.fr {w w' : World} {F F' : Nat → Lab} {b : Nat} {o : Ob} {fp : Nat → Prop} (h : ObW w F b o) (hf : Fr fp w w') (hd : ∀ k j, F k = (o.h, j) → ¬ fp k) (hF : ∀ k, k < w.heap.size → F' k = F k) : ObW w' F' b o := by
  obtain ⟨sv, iv, c, h⟩ := h
  exact ⟨sv, iv, c, h.fr hf hd hF⟩
/-- A heap in memory. -/
structure HpW (w : World) (p pa : Nat) (Sa : Nat → Prop) (AA : Ar) (F : Nat → Lab) (B : Int → Nat) (top : Int) (L : HL) : Prop where
  hp : w.heap[p]? = some (.cells #[.pointer (some ⟨pa, 0, none⟩), .int .u32 top] 86 (0, 0))
  ar : InS Sa w pa AA
  fa : ∀ k, Sa k → F k = (0, 0)
  fp : F p = (-1, 0)
  ob : ∀ o ∈ L, ObW w F (B o.h) o
  pl : ∀ o ∈ L, ∃ i sp, AA.L[i]? = some sp ∧ sp.t = true ∧ o.h = hand i sp.g ∧ sp.x = ((B o.h + 1 : Nat) : Int)
  co : ∀ (i : Nat) sp, AA.L[i]? = some sp → sp.t = true → ∃ o ∈ L, o.h = hand i sp.g
section
variable {w w' : World} {p pa : Nat} {Sa : Nat → Prop} {AA : Ar} {F F' : Nat → Lab} {B : Int → Nat} {top : Int} {L : HL} {fp : Nat → Prop}
theorem HpW.c0 (h : HpW w p pa Sa AA F B top L) : w.cell? ⟨p, 0, none⟩ = some (.pointer (some ⟨pa, 0, none⟩)) := by rw [cell_of_row w p 0 _ _ _ h.hp]; rfl
theorem HpW.c1 (h : HpW w p pa Sa AA F B top L) : w.cell? ⟨p, 1, none⟩ = some (.int .u32 top) := by rw [cell_of_row w p 1 _ _ _ h.hp]; rfl
theorem HpW.lt (h : HpW w p pa Sa AA F B top L) : p < w.heap.size := (Array.getElem?_eq_some_iff.1 h.hp).1
/-- Nothing of it has turned. -/
theorem HpW.fr (h : HpW w p pa Sa AA F B top L) (hf : Fr fp w w') (h1 : ¬ fp p) (h2 : ∀ k, F k = (0, 0) → ¬ fp k) (h3 : ∀ o ∈ L, ∀ k j, F k = (o.h, j) → ¬ fp k) (hF : ∀ k, k < w.heap.size → F' k = F k) : HpW w' p pa Sa AA F' B top L :=
  ⟨by rw [hf.block p h.lt h1]; exact h.hp, h.ar.fr hf (fun k hk => h2 k (h.fa k hk)), fun k hk => by rw [hF k (h.ar.lt k hk)]; exact h.fa k hk, by rw [hF p h.lt]; exact h.fp,
    fun o ho => (h.ob o ho).fr hf (h3 o ho) hF, h.pl, h.co⟩
end
section
variable {w : World} {p pa : Nat} {Sa : Nat → Prop} {AA : Ar} {F : Nat → Lab} {B : Int → Nat} {top : Int} {L : HL}
theorem HpW.bd (h : HpW w p pa Sa AA F B top L) {o : Ob} (ho : o ∈ L) : 1 ≤ o.h ∧ o.h ≤ 18446744073709551615 := by
  obtain ⟨i, sp, h1, h2, h3, h4⟩ := h.pl o ho
  rw [h3]
  exact hand_bd h.ar.ok h1
/-- find: an object. -/
theorem find_some (h : HpW w p pa Sa AA F B top L) {o : Ob} (ho : o ∈ L) :
    Calls Try.prog 51 #[.pointer (some ⟨p, 0, none⟩), .int .u64 o.h] w fun e w' => e = .returned (.pointer (some ⟨B o.h, 0, none⟩)) ∧ w = w' := by
  obtain ⟨i, sp, h1, h2, h3, h4⟩ := h.pl o ho
  have hg := Get_some Sa w pa AA i sp o.h h.ar ⟨h1, h2, h3⟩
  rw [show encE sp.x = .pointer (some ⟨B o.h, 0, none⟩) by rw [h4]; rfl] at hg
  have c0 := h.c0
  have HG := hid hg
  clear hg h h1 h2 h3 h4
  generalize o.h = hd at *
  go_enter Try.func51, Try.ntmps51
  go_wp2_with fail
  refine HG.out.mono ?_
  rintro e w1 ⟨rfl, rfl⟩
  go_wp2
  go_ret
  exact ⟨rfl, rfl⟩
/-- find: there is none. -/
theorem find_none (h : HpW w p pa Sa AA F B top L) {hd : Int} (hn : ∀ o ∈ L, o.h ≠ hd) (h0 : Hn hd) :
    Calls Try.prog 51 #[.pointer (some ⟨p, 0, none⟩), .int .u64 hd] w fun e w' => e = .returned (.pointer none) ∧ w = w' := by
  have hg := Get_stale Sa w pa AA hd h.ar (fun i s hf => by
    obtain ⟨o, ho, e⟩ := h.co i s hf.1 hf.2.1
    exact hn o ho (e.trans hf.2.2.symm)) h0.1 h0.2
  have c0 := h.c0
  have HG := hid hg
  clear hg h hn h0
  go_enter Try.func51, Try.ntmps51
  go_wp2_with fail
  refine HG.out.mono ?_
  rintro e w1 ⟨rfl, rfl⟩
  go_wp2
  go_ret
  exact ⟨rfl, rfl⟩
end
theorem find_nil_heap (w : World) (hd : Int) : Calls Try.prog 51 #[.pointer none, .int .u64 hd] w fun e w' => e = .returned (.pointer none) ∧ w = w' := by
  go_enter Try.func51, Try.ntmps51
  go_wp2
  go_ret
  exact ⟨rfl, rfl⟩
end Go.Proofs.Ytmkajdfajcodjaa

namespace Go.Proofs.Ytmkajdfajcodjaa
open Go Go.ChangeShapes Go.WideShapes Go.ChangeAt Go.RowKit

section
variable {w w' : World} {p pa : Nat} {Sa : Nat → Prop} {AA : Ar} {F F' : Nat → Lab} {B : Int → Nat} {top : Int} {L : HL} {fp : Nat → Prop}
/-- One object has turned. -/
theorem HpW.one (h : HpW w p pa Sa AA F B top L) (hn : Nd L) {o0 : Ob} (ho : o0 ∈ L) (f : Ob → Ob) (hf : ∀ o, (f o).h = o.h) (hfr : Fr fp w w') (hfp : ∀ k, fp k → ∃ j, F k = (o0.h, j)) (hF : ∀ k, k < w.heap.size → F' k = F k) (hob : ObW w' F' (B o0.h) (f o0)) :
    HpW w' p pa Sa AA F' B top (L.map fun o => if o.h = o0.h then f o else o) := by
  have hz := (h.bd ho).1
  have nofp : ∀ k l j, F k = (l, j) → l ≠ o0.h → ¬ fp k := fun k l j e hl hk => by
    obtain ⟨j', e'⟩ := hfp k hk
    rw [e] at e'
    exact hl (congrArg Prod.fst e')
  refine ⟨by rw [hfr.block p h.lt (nofp p _ _ h.fp (by omega))]; exact h.hp, h.ar.fr hfr (fun k hk => nofp k _ _ (h.fa k hk) (by omega)), fun k hk => by rw [hF k (h.ar.lt k hk)]; exact h.fa k hk, by rw [hF p h.lt]; exact h.fp, ?_, ?_, ?_⟩
  · intro o hm
    obtain ⟨q, hq, rfl⟩ := List.mem_map.1 hm
    by_cases e : q.h = o0.h
    · have : q = o0 := by
        have h1 := fnd_mem hn ho
        have h2 := fnd_mem hn hq
        rw [e, h1] at h2
        exact (Option.some.inj h2).symm
      subst this
      rw [if_pos rfl, hf]
      exact hob
    · rw [if_neg e]
      exact (h.ob q hq).fr hfr (fun k j e2 => nofp k _ j e2 e) hF
  · intro o hm
    obtain ⟨q, hq, rfl⟩ := List.mem_map.1 hm
    have e : (if q.h = o0.h then f q else q).h = q.h := by split; exact hf q; rfl
    rw [e]
    exact h.pl q hq
  · intro i sp h1 h2
    obtain ⟨q, hq, e⟩ := h.co i sp h1 h2
    exact ⟨_, List.mem_map.2 ⟨q, hq, rfl⟩, by rw [← e]; split; exact hf q; rfl⟩
theorem HpW.setc (h : HpW w p pa Sa AA F B top L) (hn : Nd L) {o : Ob} (ho : o ∈ L) (c : Int) : HpW (w.setCell ⟨B o.h, 4, none⟩ (.int .u32 c)) p pa Sa AA F B top (setc L o.h c) := by
  obtain ⟨sv, iv, c0, hb⟩ := h.ob o ho
  have hsv : sv.ownBlock ≠ some (B o.h) := fun e => by have := hb.fs _ e; rw [hb.fb] at this; cases this
  have hiv : iv.ownBlock ≠ some (B o.h) := fun e => by have := hb.fi _ e; rw [hb.fb] at this; cases this
  refine h.one hn ho (fun q => { q with count := c }) (fun _ => rfl) ((Fr.refl (fun k => k = B o.h) w).setCell _ _ (fun _ => rfl)) (fun k e => ⟨0, by rw [e]; exact hb.fb⟩) (fun _ _ => rfl) ⟨sv, iv, c, ?_⟩
  exact ⟨by rw [heap_setCell_same _ _ _ _ _ _ hb.hb]; rfl, ownsRow_setCell_other hb.hs hsv _, ownsRow_setCell_other hb.hi hiv _, fun _ => rfl, hb.fb, hb.fs, hb.fi⟩
def setv (L : HL) (h n : Int) : HL := L.map fun o => if o.h = h then { o with value := n } else o
theorem HpW.setv (h : HpW w p pa Sa AA F B top L) (hn : Nd L) {o : Ob} (ho : o ∈ L) (n : Int) : HpW (w.setCell ⟨B o.h, 1, none⟩ (.int .i64 n)) p pa Sa AA F B top (setv L o.h n) := by
  obtain ⟨sv, iv, c0, hb⟩ := h.ob o ho
  have hsv : sv.ownBlock ≠ some (B o.h) := fun e => by have := hb.fs _ e; rw [hb.fb] at this; cases this
  have hiv : iv.ownBlock ≠ some (B o.h) := fun e => by have := hb.fi _ e; rw [hb.fb] at this; cases this
  refine h.one hn ho (fun q => { q with value := n }) (fun _ => rfl) ((Fr.refl (fun k => k = B o.h) w).setCell _ _ (fun _ => rfl)) (fun k e => ⟨0, by rw [e]; exact hb.fb⟩) (fun _ _ => rfl) ⟨sv, iv, c0, ?_⟩
  exact ⟨by rw [heap_setCell_same _ _ _ _ _ _ hb.hb]; rfl, ownsRow_setCell_other hb.hs hsv _, ownsRow_setCell_other hb.hi hiv _, hb.hc, hb.fb, hb.fs, hb.fi⟩
theorem find_fnd (h : HpW w p pa Sa AA F B top L) {hd : Int} (h0 : Hn hd) :
    Calls Try.prog 51 #[.pointer (some ⟨p, 0, none⟩), .int .u64 hd] w fun e w' => e = .returned (.pointer (match fnd L hd with | some _ => some ⟨B hd, 0, none⟩ | none => none)) ∧ w = w' := by
  cases hf : fnd L hd with
  | none => exact find_none h (fun o ho => fnd_none.1 hf o ho) h0
  | some o =>
    obtain ⟨h1, h2⟩ := fnd_some hf
    have := find_some h h1
    rw [h2] at this
    exact this
/-- findWhole. -/
theorem findWhole_some (h : HpW w p pa Sa AA F B top L) (hi : HIn top L) {hd : Int} {x : Ob} (e : whl L hd = some x) :
    Calls Try.prog 50 #[.pointer (some ⟨p, 0, none⟩), .int .u64 hd] w fun e w' => e = .returned (.pointer (some ⟨B x.h, 0, none⟩)) ∧ w = w' := by
  obtain ⟨o, hf⟩ : ∃ o, fnd L hd = some o := by
    cases hf : fnd L hd with
    | none => rw [(whl_none hi).2 hf] at e; cases e
    | some o => exact ⟨o, rfl⟩
  obtain ⟨h1, h2⟩ := fnd_some hf
  obtain ⟨sv, iv, c, hb⟩ := h.ob o h1
  have hc2 := hb.c2
  have hF := find_some h h1
  rw [h2] at hF hc2
  rcases whl_cases hi hf with ⟨h0, h3⟩ | ⟨h0, y, hy, h4, h5, _, h3⟩
  · rw [e] at h3
    cases h3
    rw [h0] at hc2
    rw [h2]
    have HF := hid hF
    clear h hi e hf h1 h2 hb hF h0
    go_enter Try.func50, Try.ntmps50
    go_wp2_with (refine HF.out.mono ?_; rintro e w1 ⟨rfl, rfl⟩)
    go_ret
    exact ⟨rfl, rfl⟩
  · rw [e] at h3
    cases h3
    have hG := find_some h hy
    rw [h4] at hG ⊢
    have hz : (o.outer == 0) = false := by simpa using h0
    have HF := hid hF
    have HG := hid hG
    generalize o.outer = u at *
    clear h hi e hf h1 h2 hb hF hG h0 h4
    go_enter Try.func50, Try.ntmps50
    go_wp2_with fail
    refine HF.out.mono ?_
    rintro e w1 ⟨rfl, rfl⟩
    go_wp2_with (refine HG.out.mono ?_; rintro e w1 ⟨rfl, rfl⟩)
    go_ret
    exact ⟨rfl, rfl⟩
theorem findWhole_none (h : HpW w p pa Sa AA F B top L) {hd : Int} (e : fnd L hd = none) (h0 : Hn hd) :
    Calls Try.prog 50 #[.pointer (some ⟨p, 0, none⟩), .int .u64 hd] w fun e w' => e = .returned (.pointer none) ∧ w = w' := by
  have hF := find_none h (fun o ho => fnd_none.1 e o ho) h0
  have HF := hid hF
  clear h hF e h0
  go_enter Try.func50, Try.ntmps50
  go_wp2_with (refine HF.out.mono ?_; rintro e w1 ⟨rfl, rfl⟩)
  go_ret
  exact ⟨rfl, rfl⟩
theorem Count_some (h : HpW w p pa Sa AA F B top L) (hi : HIn top L) {hd : Int} {x : Ob} (e : whl L hd = some x) :
    Calls Try.prog 26 #[.pointer (some ⟨p, 0, none⟩), .int .u64 hd] w fun e w' => e = .returned (.int .u32 x.count) ∧ w = w' := by
  have hF := findWhole_some h hi e
  obtain ⟨h1, h2⟩ := whl_some hi e
  obtain ⟨sv, iv, c, hb⟩ := h.ob x h1
  have hc4 := hb.c4
  rw [hb.hc h2] at hc4
  have HF := hid hF
  clear h hi hF e h1 h2 hb
  go_enter Try.func26, Try.ntmps26
  go_wp2_with (refine HF.out.mono ?_; rintro e w1 ⟨rfl, rfl⟩)
  go_ret
  exact ⟨rfl, rfl⟩
theorem Count_none (h : HpW w p pa Sa AA F B top L) {hd : Int} (e : fnd L hd = none) (h0 : Hn hd) :
    Calls Try.prog 26 #[.pointer (some ⟨p, 0, none⟩), .int .u64 hd] w fun e w' => e = .returned (.int .u32 0) ∧ w = w' := by
  have HF := hid (findWhole_none h e h0)
  clear h e h0
  go_enter Try.func26, Try.ntmps26
  go_wp2_with (refine HF.out.mono ?_; rintro e w1 ⟨rfl, rfl⟩)
  go_ret
  exact ⟨rfl, rfl⟩
theorem Up_none (h : HpW w p pa Sa AA F B top L) {hd : Int} (e : fnd L hd = none) (h0 : Hn hd) :
    Calls Try.prog 24 #[.pointer (some ⟨p, 0, none⟩), .int .u64 hd] w fun e w' => e = .returned (.tuple #[.int .u32 0, .int .i64 2]) ∧ w = w' := by
  have HF := hid (findWhole_none h e h0)
  clear h e h0
  go_enter Try.func24, Try.ntmps24
  go_wp2_with (refine HF.out.mono ?_; rintro e w1 ⟨rfl, rfl⟩)
  go_ret2
  exact ⟨rfl, rfl⟩
theorem Up_top (h : HpW w p pa Sa AA F B top L) (hi : HIn top L) {hd : Int} {x : Ob} (e : whl L hd = some x) (ht : x.count = top) :
    Calls Try.prog 24 #[.pointer (some ⟨p, 0, none⟩), .int .u64 hd] w fun e w' => e = .returned (.tuple #[.int .u32 0, .int .i64 4]) ∧ Fr (fun _ => False) w w' := by
  have hF := findWhole_some h hi e
  obtain ⟨h1, h2⟩ := whl_some hi e
  obtain ⟨sv, iv, c, hb⟩ := h.ob x h1
  have hc4 := hb.c4
  rw [hb.hc h2, ht] at hc4
  have hc1 := h.c1
  have HF := hid hF
  clear h hi hF e h1 h2 hb ht
  go_enter Try.func24, Try.ntmps24
  go_wp2_with fail
  refine HF.out.mono ?_
  rintro e w1 ⟨rfl, rfl⟩
  go_wp2
  go_quiet (fail)
  go_wp2
  go_ret2
  exact ⟨rfl, (Fr.refl _ _).drewN _⟩
theorem HpW.drewN (h : HpW w p pa Sa AA F B top L) (n : Nat) : HpW (w.drewN n) p pa Sa AA F B top L := h.fr (fp := fun _ => False) ((Fr.refl _ _).drewN n) (fun e => e) (fun _ _ e => e) (fun _ _ _ _ _ e => e) (fun _ _ => rfl)
theorem Up_ok (h : HpW w p pa Sa AA F B top L) (hi : HIn top L) (htop : top ≤ 4294967295) {hd : Int} {x : Ob} (e : whl L hd = some x) (ht : x.count ≠ top) :
    Calls Try.prog 24 #[.pointer (some ⟨p, 0, none⟩), .int .u64 hd] w fun e w' => e = .returned (.tuple #[.int .u32 (x.count + 1), .int .i64 0]) ∧ HpW w' p pa Sa AA F B top (Go.Proofs.Ytmkajdfajcodjaa.setc L x.h (x.count + 1)) ∧ Fr (fun k => F k = (x.h, 0)) w w' := by
  have hF := findWhole_some h hi e
  obtain ⟨h1, h2⟩ := whl_some hi e
  obtain ⟨sv, iv, c, hb⟩ := h.ob x h1
  have hc4 := hb.c4
  have hz4 := hb.fz 4
  have hfb := hb.fb
  rw [hb.hc h2] at hc4
  have hc1 := h.c1
  have hcb := hi.cnt x h1
  have hq : (x.count == top) = false := by simpa using ht
  have hwr : IntKind.u32.wrap (x.count + 1) = x.count + 1 := IntWalk.u32_in _ (by omega)
  have HF := hid hF
  have HH := hid h
  have H1 := hid h1
  have HN := hid hi.nd
  have HFB := hid hfb
  generalize x.count = n at *
  clear h hi hF e h1 h2 hb ht hcb htop hfb
  go_enter Try.func24, Try.ntmps24
  go_wp2_with fail
  refine HF.out.mono ?_
  rintro e w1 ⟨rfl, rfl⟩
  go_wp2
  go_quiet (fail)
  go_wp2
  go_ret2
  refine ⟨rfl, (HH.out.drewN _).setc HN.out H1.out _, ((Fr.refl _ _).drewN _).setCell _ _ (fun _ => HFB.out)⟩
theorem Value_fnd (h : HpW w p pa Sa AA F B top L) {hd : Int} (h0 : Hn hd) :
    Calls Try.prog 29 #[.pointer (some ⟨p, 0, none⟩), .int .u64 hd] w fun e w' => e = .returned (match fnd L hd with | some o => .tuple #[.int .i64 o.value, .int .i64 0] | none => .tuple #[.int .i64 0, .int .i64 2]) ∧ w = w' := by
  cases hf : fnd L hd with
  | none =>
    have HF := hid (find_none h (fun o ho => fnd_none.1 hf o ho) h0)
    clear h h0 hf
    go_enter Try.func29, Try.ntmps29
    go_wp2_with (refine HF.out.mono ?_; rintro e w1 ⟨rfl, rfl⟩)
    go_ret2
    exact ⟨rfl, rfl⟩
  | some o =>
    obtain ⟨h1, h2⟩ := fnd_some hf
    obtain ⟨sv, iv, c, hb⟩ := h.ob o h1
    have hc1 := hb.c1
    have hF := find_some h h1
    rw [h2] at hF hc1
    have HF := hid hF
    clear h h0 hf hb hF h1 h2
    go_enter Try.func29, Try.ntmps29
    go_wp2_with (refine HF.out.mono ?_; rintro e w1 ⟨rfl, rfl⟩)
    go_ret2
    exact ⟨rfl, rfl⟩
theorem Whole_none (h : HpW w p pa Sa AA F B top L) {hd : Int} (e : fnd L hd = none) (h0 : Hn hd) :
    Calls Try.prog 30 #[.pointer (some ⟨p, 0, none⟩), .int .u64 hd] w fun e w' => e = .returned (.tuple #[.int .u64 0, .int .i64 2]) ∧ w = w' := by
  have HF := hid (find_none h (fun o ho => fnd_none.1 e o ho) h0)
  clear h h0 e
  go_enter Try.func30, Try.ntmps30
  go_wp2_with (refine HF.out.mono ?_; rintro e w1 ⟨rfl, rfl⟩)
  go_ret2
  exact ⟨rfl, rfl⟩
theorem Whole_some (h : HpW w p pa Sa AA F B top L) (hi : HIn top L) {hd : Int} {x : Ob} (e : whl L hd = some x) :
    Calls Try.prog 30 #[.pointer (some ⟨p, 0, none⟩), .int .u64 hd] w fun e w' => e = .returned (.tuple #[.int .u64 x.h, .int .i64 0]) ∧ w = w' := by
  obtain ⟨o, hf⟩ : ∃ o, fnd L hd = some o := by
    cases hf : fnd L hd with
    | none => rw [(whl_none hi).2 hf] at e; cases e
    | some o => exact ⟨o, rfl⟩
  obtain ⟨h1, h2⟩ := fnd_some hf
  obtain ⟨sv, iv, c, hb⟩ := h.ob o h1
  have hc2 := hb.c2
  have hF := find_some h h1
  rw [h2] at hF hc2
  rcases whl_cases hi hf with ⟨h0, h3⟩ | ⟨h0, y, hy, h4, h5, _, h3⟩
  · rw [e] at h3
    cases h3
    rw [h0] at hc2
    rw [h2]
    have HF := hid hF
    clear h hi e hf h1 h2 hb hF h0
    go_enter Try.func30, Try.ntmps30
    go_wp2_with (refine HF.out.mono ?_; rintro e w1 ⟨rfl, rfl⟩)
    go_ret2
    exact ⟨rfl, rfl⟩
  · rw [e] at h3
    cases h3
    rw [h4]
    have hz : (o.outer == 0) = false := by simpa using h0
    have HF := hid hF
    generalize o.outer = u at *
    clear h hi e hf h1 h2 hb hF h0 h4
    go_enter Try.func30, Try.ntmps30
    go_wp2_with (refine HF.out.mono ?_; rintro e w1 ⟨rfl, rfl⟩)
    go_ret2
    exact ⟨rfl, rfl⟩
theorem Store_none (h : HpW w p pa Sa AA F B top L) {hd n : Int} (e : fnd L hd = none) (h0 : Hn hd) :
    Calls Try.prog 32 #[.pointer (some ⟨p, 0, none⟩), .int .u64 hd, .int .i64 n] w fun e w' => e = .returned (.int .i64 2) ∧ w = w' := by
  have HF := hid (find_none h (fun o ho => fnd_none.1 e o ho) h0)
  clear h h0 e
  go_enter Try.func32, Try.ntmps32
  go_wp2_with (refine HF.out.mono ?_; rintro e w1 ⟨rfl, rfl⟩)
  go_ret
  exact ⟨rfl, rfl⟩
theorem Store_some (h : HpW w p pa Sa AA F B top L) (hn : Nd L) {o : Ob} (ho : o ∈ L) (n : Int) :
    Calls Try.prog 32 #[.pointer (some ⟨p, 0, none⟩), .int .u64 o.h, .int .i64 n] w fun e w' => e = .returned (.int .i64 0) ∧ HpW w' p pa Sa AA F B top (Go.Proofs.Ytmkajdfajcodjaa.setv L o.h n) ∧ Fr (fun k => F k = (o.h, 0)) w w' := by
  obtain ⟨sv, iv, c, hb⟩ := h.ob o ho
  have hc1 := hb.c1
  have hz1 := hb.fz 1
  have HF := hid (find_some h ho)
  have HR := hid (h.setv hn ho n)
  have HB := hid hb.fb
  clear h hb hn ho
  generalize o.h = hd at *
  go_enter Try.func32, Try.ntmps32
  go_wp2_with (refine HF.out.mono ?_; rintro e w1 ⟨rfl, rfl⟩)
  go_ret
  exact ⟨rfl, HR.out, (Fr.refl _ _).setCell _ _ (fun _ => HB.out)⟩
end
end Go.Proofs.Ytmkajdfajcodjaa
