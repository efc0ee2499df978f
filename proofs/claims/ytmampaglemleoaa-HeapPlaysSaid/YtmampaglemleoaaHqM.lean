/-
  Heaps plainly: what stays true whatever is done: wholes and inners, bounds.
-/
import Derived.Test.YtmampaglemleoaaHpC
namespace Go.Proofs.Ytmampaglemleoaa
open Go

/-- What holds of the objects, whatever is done. -/
structure HIn (top : Int) (L : HL) : Prop where
  nd : Nd L
  nz : ∀ o ∈ L, 1 ≤ o.h ∧ o.h ≤ 18446744073709551615
  out : ∀ o ∈ L, o.outer ≠ 0 → ∃ x ∈ L, x.h = o.outer ∧ x.outer = 0 ∧ o.h ∈ x.inners
  inn : ∀ x ∈ L, ∀ h ∈ x.inners, ∃ o ∈ L, o.h = h ∧ o.outer = x.h
  idp : ∀ x ∈ L, x.inners.Nodup
  cnt : ∀ o ∈ L, 0 ≤ o.count ∧ o.count ≤ top
  val : ∀ o ∈ L, Nm o.value
  oub : ∀ o ∈ L, Hn o.outer
  lnk : ∀ o ∈ L, o.links.length ≤ 8 ∧ ∀ l ∈ o.links, Nm l.kind ∧ Hn l.h
section
variable {top : Int} {L : HL}
theorem ob_eq (hn : Nd L) {o p : Ob} (ho : o ∈ L) (hp : p ∈ L) (e : p.h = o.h) : p = o := by
  have h1 := fnd_mem hn ho
  have h2 := fnd_mem hn hp
  rw [e, h1] at h2
  exact (Option.some.inj h2).symm
theorem whl_cases (h : HIn top L) {hd : Int} {o : Ob} (e : fnd L hd = some o) : (o.outer = 0 ∧ whl L hd = some o) ∨ (o.outer ≠ 0 ∧ ∃ x ∈ L, x.h = o.outer ∧ x.outer = 0 ∧ o.h ∈ x.inners ∧ whl L hd = some x) := by
  unfold whl
  rw [e]
  simp only
  by_cases h0 : o.outer = 0
  · exact .inl ⟨h0, by rw [if_pos h0]⟩
  · obtain ⟨x, hx, h1, h2, h3⟩ := h.out o (fnd_some e).1 h0
    exact .inr ⟨h0, x, hx, h1, h2, h3, by rw [if_neg h0, ← h1]; exact fnd_mem h.nd hx⟩
theorem whl_none (h : HIn top L) {hd : Int} : whl L hd = none ↔ fnd L hd = none := by
  constructor
  · intro e
    cases hf : fnd L hd with
    | none => rfl
    | some o =>
      rcases whl_cases h hf with ⟨_, h1⟩ | ⟨_, x, _, _, _, _, h1⟩
      · rw [e] at h1; cases h1
      · rw [e] at h1; cases h1
  · intro e
    unfold whl
    rw [e]
theorem whl_some (h : HIn top L) {hd : Int} {x : Ob} (e : whl L hd = some x) : x ∈ L ∧ x.outer = 0 := by
  cases hf : fnd L hd with
  | none => rw [(whl_none h).2 hf] at e; cases e
  | some o =>
    rcases whl_cases h hf with ⟨h0, h1⟩ | ⟨_, y, hy, _, h2, _, h1⟩
    · rw [h1] at e
      cases e
      exact ⟨(fnd_some hf).1, h0⟩
    · rw [h1] at e
      cases e
      exact ⟨hy, h2⟩
theorem HIn.inn0 (h : HIn top L) {x : Ob} (hx : x ∈ L) (h0 : x.outer ≠ 0) : x.inners = [] := by
  cases hi : x.inners with
  | nil => rfl
  | cons a r =>
    obtain ⟨o, ho, h1, h2⟩ := h.inn x hx a (by rw [hi]; simp)
    have h3 := h.nz x hx
    obtain ⟨y, hy, h4, h5, _⟩ := h.out o ho (by omega)
    rw [ob_eq h.nd hx hy (h4.trans h2)] at h5
    exact absurd h5 h0
theorem HIn.self (h : HIn top L) {x : Ob} (hx : x ∈ L) : x.h ∉ x.inners := fun hm => by
  obtain ⟨o, ho, h1, h2⟩ := h.inn x hx _ hm
  have e := ob_eq h.nd hx ho h1
  subst e
  have h3 := h.nz o ho
  have h4 := h.inn0 ho (by omega)
  rw [h4] at hm
  cases hm
theorem setc_mem {h c : Int} {o : Ob} (ho : o ∈ setc L h c) : ∃ p ∈ L, o.h = p.h ∧ o.outer = p.outer ∧ o.value = p.value ∧ o.links = p.links ∧ o.inners = p.inners ∧ (o.count = p.count ∨ (p.h = h ∧ o.count = c)) := by
  obtain ⟨p, hp, rfl⟩ := mem_setc.1 ho
  by_cases e : p.h = h
  · exact ⟨p, hp, by rw [if_pos e], by rw [if_pos e], by rw [if_pos e], by rw [if_pos e], by rw [if_pos e], .inr ⟨e, by rw [if_pos e]⟩⟩
  · exact ⟨p, hp, by rw [if_neg e], by rw [if_neg e], by rw [if_neg e], by rw [if_neg e], by rw [if_neg e], .inl (by rw [if_neg e])⟩
theorem mem_setc' {h c : Int} {p : Ob} (hp : p ∈ L) : ∃ o ∈ setc L h c, o.h = p.h ∧ o.outer = p.outer ∧ o.inners = p.inners :=
  ⟨_, mem_setc.2 ⟨p, hp, rfl⟩, by split <;> rfl, by split <;> rfl, by split <;> rfl⟩
theorem HIn.setc (h : HIn top L) (x c : Int) (hc : 0 ≤ c ∧ c ≤ top) : HIn top (setc L x c) := by
  refine ⟨h.nd.setc x c, ?_, ?_, ?_, ?_, ?_, ?_, ?_, ?_⟩
  · intro o ho
    obtain ⟨p, hp, h1, _⟩ := setc_mem ho
    rw [h1]; exact h.nz p hp
  · intro o ho h0
    obtain ⟨p, hp, h1, h2, _⟩ := setc_mem ho
    obtain ⟨y, hy, h3, h4, h5⟩ := h.out p hp (by rw [← h2]; exact h0)
    obtain ⟨z, hz, h6, h7, h8⟩ := mem_setc' (h := x) (c := c) hy
    exact ⟨z, hz, by rw [h6, h3, h2], by rw [h7, h4], by rw [h8, h1]; exact h5⟩
  · intro o ho hd hm
    obtain ⟨p, hp, h1, h2, _, _, h3, _⟩ := setc_mem ho
    obtain ⟨y, hy, h4, h5⟩ := h.inn p hp hd (by rw [← h3]; exact hm)
    obtain ⟨z, hz, h6, h7, _⟩ := mem_setc' (h := x) (c := c) hy
    exact ⟨z, hz, by rw [h6, h4], by rw [h7, h5, h1]⟩
  · intro o ho
    obtain ⟨p, hp, _, _, _, _, h3, _⟩ := setc_mem ho
    rw [h3]; exact h.idp p hp
  · intro o ho
    obtain ⟨p, hp, _, _, _, _, _, h3 | ⟨_, h3⟩⟩ := setc_mem ho
    · rw [h3]; exact h.cnt p hp
    · rw [h3]; exact hc
  · intro o ho
    obtain ⟨p, hp, _, _, h3, _⟩ := setc_mem ho
    rw [h3]; exact h.val p hp
  · intro o ho
    obtain ⟨p, hp, _, h3, _⟩ := setc_mem ho
    rw [h3]; exact h.oub p hp
  · intro o ho
    obtain ⟨p, hp, _, _, _, h3, _⟩ := setc_mem ho
    rw [h3]; exact h.lnk p hp
theorem awa_some {x : Int} {o : Ob} (e : fnd L x = some o) : awa L x = (L.filter fun y => !(y.h == x || o.inners.contains y.h), o.links ++ (o.inners.filterMap (fnd L)).flatMap (·.links), x :: o.inners) := by
  unfold awa
  rw [e]
theorem awa_none {x : Int} (e : fnd L x = none) : awa L x = (L, [], []) := by
  unfold awa
  rw [e]
/-- A whole goes. -/
theorem HIn.awa (h : HIn top L) (x : Int) (hw : ∀ o ∈ L, o.h = x → o.outer = 0) : HIn top (awa L x).1 := by
  cases hf : fnd L x with
  | none => rw [awa_none hf]; exact h
  | some w =>
    rw [awa_some hf]
    obtain ⟨hwm, hwx⟩ := fnd_some hf
    have hw0 := hw w hwm hwx
    have hmem : ∀ {o : Ob}, o ∈ L.filter (fun y => !(y.h == x || w.inners.contains y.h)) ↔ o ∈ L ∧ o.h ≠ x ∧ o.h ∉ w.inners := by
      intro o
      rw [List.mem_filter]
      simp
    refine ⟨h.nd.sublist (List.Sublist.map _ (List.filter_sublist ..)), fun o ho => h.nz o (hmem.1 ho).1, ?_, ?_, fun o ho => h.idp o (hmem.1 ho).1, fun o ho => h.cnt o (hmem.1 ho).1, fun o ho => h.val o (hmem.1 ho).1, fun o ho => h.oub o (hmem.1 ho).1, fun o ho => h.lnk o (hmem.1 ho).1⟩
    · intro o ho h0
      obtain ⟨ho1, ho2, ho3⟩ := hmem.1 ho
      obtain ⟨y, hy, h1, h2, h3⟩ := h.out o ho1 h0
      refine ⟨y, hmem.2 ⟨hy, fun e => ?_, fun e => ?_⟩, h1, h2, h3⟩
      · have : y = w := ob_eq h.nd hwm hy (e.trans hwx.symm)
        subst this
        exact ho3 h3
      · obtain ⟨z, hz, h4, h5⟩ := h.inn w hwm _ e
        have : z = y := ob_eq h.nd hy hz h4
        subst this
        have := h.nz w hwm
        omega
    · intro y hy hd hm
      obtain ⟨hy1, hy2, hy3⟩ := hmem.1 hy
      obtain ⟨o, ho, h1, h2⟩ := h.inn y hy1 hd hm
      refine ⟨o, hmem.2 ⟨ho, fun e => ?_, fun e => ?_⟩, h1, h2⟩
      · have : o = w := ob_eq h.nd hwm ho (e.trans hwx.symm)
        subst this
        have := h.nz y hy1
        omega
      · obtain ⟨z, hz, h4, h5⟩ := h.inn w hwm _ e
        have : z = o := ob_eq h.nd ho hz h4
        subst this
        exact hy2 (by rw [← h2, h5, hwx])
/-- Who waits is a whole. -/
def WW (L : HL) (ws : List Int) : Prop := ∀ x ∈ ws, ∀ o ∈ L, o.h = x → o.outer = 0
theorem WW.sub {L L' : HL} {ws : List Int} (h : WW L ws) (hs : ∀ o ∈ L', ∃ p ∈ L, p.h = o.h ∧ p.outer = o.outer) : WW L' ws := fun x hx o ho e => by
  obtain ⟨p, hp, h1, h2⟩ := hs o ho
  rw [← h2]
  exact h x hx p hp (h1.trans e)
theorem let1_sub (l : Lk) : ∀ o ∈ (let1 L l).1, ∃ p ∈ L, p.h = o.h ∧ p.outer = o.outer := by
  intro o ho
  unfold let1 at ho
  split at ho
  · exact ⟨o, ho, rfl, rfl⟩
  · split at ho
    · split at ho
      · exact ⟨o, ho, rfl, rfl⟩
      · split at ho
        · exact ⟨o, ho, rfl, rfl⟩
        · obtain ⟨p, hp, h1, h2, _⟩ := setc_mem ho
          exact ⟨p, hp, h1.symm, h2.symm⟩
    · exact ⟨o, ho, rfl, rfl⟩
theorem HIn.let1 (h : HIn top L) (l : Lk) : HIn top (let1 L l).1 ∧ WW (Go.Proofs.Ytmampaglemleoaa.let1 L l).1 (Go.Proofs.Ytmampaglemleoaa.let1 L l).2.1 := by
  have hsub := let1_sub (L := L) l
  unfold Go.Proofs.Ytmampaglemleoaa.let1 at hsub ⊢
  split
  · exact ⟨h, fun x hx => by simp at hx⟩
  · split
    · cases hw : whl L l.h with
      | none => exact ⟨h, fun x hx => by simp at hx⟩
      | some w =>
        simp only
        obtain ⟨h1, h2⟩ := whl_some h hw
        split
        · exact ⟨h, fun x hx => by simp at hx⟩
        · rename_i hc
          have h3 := h.cnt w h1
          refine ⟨h.setc _ _ (by omega), fun x hx o ho e => ?_⟩
          simp only at hx ho
          split at hx
          · simp at hx
            subst hx
            obtain ⟨p, hp, h4, h5, _⟩ := setc_mem ho
            have : p = w := ob_eq h.nd h1 hp (h4.symm.trans e)
            rw [h5, this, h2]
          · simp at hx
    · exact ⟨h, fun x hx => by simp at hx⟩
end
theorem HIn.letg {top : Int} : ∀ {P : List Lk} {L : HL} {ws : List Int}, HIn top L → WW L ws → HIn top (letg L P).1 ∧ WW (Go.Proofs.Ytmampaglemleoaa.letg L P).1 (ws ++ (Go.Proofs.Ytmampaglemleoaa.letg L P).2.1)
  | [], L, ws, h, hw => ⟨h, by simpa [Go.Proofs.Ytmampaglemleoaa.letg] using hw⟩
  | l :: r, L, ws, h, hw => by
    obtain ⟨h1, h2⟩ := h.let1 l
    have h3 : WW (Go.Proofs.Ytmampaglemleoaa.let1 L l).1 (ws ++ (Go.Proofs.Ytmampaglemleoaa.let1 L l).2.1) := fun x hx => by
      rcases List.mem_append.1 hx with hx | hx
      · exact hw.sub (let1_sub l) x hx
      · exact h2 x hx
    have ih := HIn.letg (P := r) h1 h3
    unfold Go.Proofs.Ytmampaglemleoaa.letg
    refine ⟨ih.1, ?_⟩
    rw [← List.append_assoc]
    exact ih.2
theorem HIn.goes {top : Int} {L L' : HL} {ws g f : List Int} (hg : Goes L ws L' g f) : HIn top L → WW L ws → HIn top L' := by
  induction hg with
  | nil => exact fun h _ => h
  | cons hg ih =>
    intro h hw
    rename_i L L' x ws g f
    have h1 := h.awa x (hw x (by simp))
    have h2 : WW (Go.Proofs.Ytmampaglemleoaa.awa L x).1 ws := (show WW L ws from fun y hy => hw y (by simp [hy])).sub fun o ho => by
      cases hf : fnd L x with
      | none => rw [awa_none hf] at ho; exact ⟨o, ho, rfl, rfl⟩
      | some w => rw [awa_some hf] at ho; exact ⟨o, (List.mem_filter.1 ho).1, rfl, rfl⟩
    obtain ⟨h3, h4⟩ := h1.letg (P := (Go.Proofs.Ytmampaglemleoaa.awa L x).2.1) h2
    exact ih h3 h4
theorem setl_mem {L : HL} {h : Int} {s : Nat} {l : Lk} {o : Ob} (ho : o ∈ setl L h s l) : ∃ p ∈ L, o.h = p.h ∧ o.outer = p.outer ∧ o.value = p.value ∧ o.inners = p.inners ∧ o.count = p.count ∧ (o.links = p.links ∨ (p.h = h ∧ o.links = p.links.set s l)) := by
  obtain ⟨p, hp, rfl⟩ := mem_setl.1 ho
  by_cases e : p.h = h
  · exact ⟨p, hp, by rw [if_pos e], by rw [if_pos e], by rw [if_pos e], by rw [if_pos e], by rw [if_pos e], .inr ⟨e, by rw [if_pos e]⟩⟩
  · exact ⟨p, hp, by rw [if_neg e], by rw [if_neg e], by rw [if_neg e], by rw [if_neg e], by rw [if_neg e], .inl (by rw [if_neg e])⟩
theorem mem_setl' {L : HL} {h : Int} {s : Nat} {l : Lk} {p : Ob} (hp : p ∈ L) : ∃ o ∈ setl L h s l, o.h = p.h ∧ o.outer = p.outer ∧ o.inners = p.inners :=
  ⟨_, mem_setl.2 ⟨p, hp, rfl⟩, by split <;> rfl, by split <;> rfl, by split <;> rfl⟩
theorem HIn.setl {top : Int} {L : HL} (h : HIn top L) (x : Int) (s : Nat) (l : Lk) (hl : Nm l.kind ∧ Hn l.h) : HIn top (setl L x s l) := by
  refine ⟨by unfold Nd; rw [setl_h]; exact h.nd, ?_, ?_, ?_, ?_, ?_, ?_, ?_, ?_⟩
  · intro o ho
    obtain ⟨p, hp, h1, _⟩ := setl_mem ho
    rw [h1]; exact h.nz p hp
  · intro o ho h0
    obtain ⟨p, hp, h1, h2, _⟩ := setl_mem ho
    obtain ⟨y, hy, h3, h4, h5⟩ := h.out p hp (by rw [← h2]; exact h0)
    obtain ⟨z, hz, h6, h7, h8⟩ := mem_setl' (h := x) (s := s) (l := l) hy
    exact ⟨z, hz, by rw [h6, h3, h2], by rw [h7, h4], by rw [h8, h1]; exact h5⟩
  · intro o ho hd hm
    obtain ⟨p, hp, h1, h2, _, h3, _⟩ := setl_mem ho
    obtain ⟨y, hy, h4, h5⟩ := h.inn p hp hd (by rw [← h3]; exact hm)
    obtain ⟨z, hz, h6, h7, _⟩ := mem_setl' (h := x) (s := s) (l := l) hy
    exact ⟨z, hz, by rw [h6, h4], by rw [h7, h5, h1]⟩
  · intro o ho
    obtain ⟨p, hp, _, _, _, h3, _⟩ := setl_mem ho
    rw [h3]; exact h.idp p hp
  · intro o ho
    obtain ⟨p, hp, _, _, _, _, h3, _⟩ := setl_mem ho
    rw [h3]; exact h.cnt p hp
  · intro o ho
    obtain ⟨p, hp, _, _, h3, _⟩ := setl_mem ho
    rw [h3]; exact h.val p hp
  · intro o ho
    obtain ⟨p, hp, _, h3, _⟩ := setl_mem ho
    rw [h3]; exact h.oub p hp
  · intro o ho
    obtain ⟨p, hp, _, _, _, _, _, h3 | ⟨_, h3⟩⟩ := setl_mem ho
    · rw [h3]; exact h.lnk p hp
    · rw [h3, List.length_set]
      have h4 := h.lnk p hp
      refine ⟨h4.1, fun y hy => ?_⟩
      rcases List.mem_or_eq_of_mem_set hy with hy | hy
      · exact h4.2 y hy
      · subst hy; exact hl
theorem addIn_mem {L : HL} {w h : Int} {o : Ob} (ho : o ∈ addIn L w h) : ∃ p ∈ L, o.h = p.h ∧ o.outer = p.outer ∧ o.value = p.value ∧ o.links = p.links ∧ o.count = p.count ∧ (o.inners = p.inners ∨ (w ≠ 0 ∧ p.h = w ∧ o.inners = p.inners ++ [h])) := by
  unfold addIn at ho
  split at ho
  · exact ⟨o, ho, rfl, rfl, rfl, rfl, rfl, .inl rfl⟩
  · rename_i h0
    obtain ⟨p, hp, rfl⟩ := List.mem_map.1 ho
    by_cases e : p.h = w
    · exact ⟨p, hp, by rw [if_pos e], by rw [if_pos e], by rw [if_pos e], by rw [if_pos e], by rw [if_pos e], .inr ⟨h0, e, by rw [if_pos e]⟩⟩
    · exact ⟨p, hp, by rw [if_neg e], by rw [if_neg e], by rw [if_neg e], by rw [if_neg e], by rw [if_neg e], .inl (by rw [if_neg e])⟩
theorem mem_addIn {L : HL} {w h : Int} {p : Ob} (hp : p ∈ L) : ∃ o ∈ addIn L w h, o.h = p.h ∧ o.outer = p.outer ∧ (∀ x ∈ p.inners, x ∈ o.inners) ∧ (w ≠ 0 → p.h = w → h ∈ o.inners) := by
  unfold addIn
  split
  · rename_i h0
    exact ⟨p, hp, rfl, rfl, fun x hx => hx, fun k => absurd h0 k⟩
  · by_cases e : p.h = w
    · exact ⟨_, List.mem_map.2 ⟨p, hp, rfl⟩, by rw [if_pos e], by rw [if_pos e], fun x hx => by rw [if_pos e]; simp [hx], fun _ _ => by rw [if_pos e]; simp⟩
    · exact ⟨_, List.mem_map.2 ⟨p, hp, rfl⟩, by rw [if_neg e], by rw [if_neg e], fun x hx => by rw [if_neg e]; exact hx, fun _ k => absurd k e⟩
theorem addIn_h (L : HL) (w h : Int) : (addIn L w h).map (·.h) = L.map (·.h) := by
  unfold addIn
  split
  · rfl
  · rw [List.map_map]
    refine List.map_congr_left fun o _ => ?_
    simp only [Function.comp]
    split <;> rfl
theorem HIn.make {top : Int} {L : HL} (h : HIn top L) (ht : 1 ≤ top) {hd w : Int} {n : Nat} (hb : 1 ≤ hd ∧ hd ≤ 18446744073709551615) (hn : ∀ o ∈ L, o.h ≠ hd) (h8 : n ≤ 8) (hw : w ≠ 0 → ∃ o ∈ L, o.h = w ∧ o.outer = 0) (hwb : Hn w) :
    HIn top (addIn L w hd ++ [newOb hd w n]) := by
  have hmem : ∀ {o : Ob}, o ∈ addIn L w hd ++ [newOb hd w n] ↔ o ∈ addIn L w hd ∨ o = newOb hd w n := by intro o; simp
  refine ⟨?_, ?_, ?_, ?_, ?_, ?_, ?_, ?_, ?_⟩
  · unfold Nd
    rw [List.map_append, addIn_h, List.nodup_append]
    refine ⟨h.nd, by simp, fun a ha b hb => ?_⟩
    obtain ⟨o, ho, rfl⟩ := List.mem_map.1 ha
    simp [newOb] at hb
    subst hb
    exact hn o ho
  · intro o ho
    rcases hmem.1 ho with ho | rfl
    · obtain ⟨p, hp, h1, _⟩ := addIn_mem ho
      rw [h1]; exact h.nz p hp
    · exact hb
  · intro o ho h0
    rcases hmem.1 ho with ho | rfl
    · obtain ⟨p, hp, h1, h2, _⟩ := addIn_mem ho
      obtain ⟨y, hy, h3, h4, h5⟩ := h.out p hp (by rw [← h2]; exact h0)
      obtain ⟨z, hz, h6, h7, h8, _⟩ := mem_addIn (w := w) (h := hd) hy
      exact ⟨z, hmem.2 (.inl hz), by rw [h6, h3, h2], by rw [h7, h4], by rw [h1]; exact h8 _ h5⟩
    · obtain ⟨y, hy, h1, h2⟩ := hw h0
      obtain ⟨z, hz, h6, h7, _, h8⟩ := mem_addIn (w := w) (h := hd) hy
      exact ⟨z, hmem.2 (.inl hz), by rw [h6, h1]; rfl, by rw [h7, h2], h8 h0 h1⟩
  · intro x hx a ha
    rcases hmem.1 hx with hx | rfl
    · obtain ⟨p, hp, h1, _, _, _, _, h2 | ⟨h0, h2, h3⟩⟩ := addIn_mem hx
      · obtain ⟨y, hy, h4, h5⟩ := h.inn p hp a (by rw [← h2]; exact ha)
        obtain ⟨z, hz, h6, h7, _⟩ := mem_addIn (w := w) (h := hd) hy
        exact ⟨z, hmem.2 (.inl hz), by rw [h6, h4], by rw [h7, h5, h1]⟩
      · rw [h3] at ha
        rcases List.mem_append.1 ha with ha | ha
        · obtain ⟨y, hy, h4, h5⟩ := h.inn p hp a ha
          obtain ⟨z, hz, h6, h7, _⟩ := mem_addIn (w := w) (h := hd) hy
          exact ⟨z, hmem.2 (.inl hz), by rw [h6, h4], by rw [h7, h5, h1]⟩
        · simp at ha
          subst ha
          exact ⟨_, hmem.2 (.inr rfl), rfl, by rw [h1, h2]; rfl⟩
    · simp [newOb] at ha
  · intro x hx
    rcases hmem.1 hx with hx | rfl
    · obtain ⟨p, hp, _, _, _, _, _, h2 | ⟨_, _, h3⟩⟩ := addIn_mem hx
      · rw [h2]; exact h.idp p hp
      · rw [h3, List.nodup_append]
        refine ⟨h.idp p hp, by simp, fun a ha b hb => ?_⟩
        simp at hb
        subst hb
        obtain ⟨y, hy, h4, _⟩ := h.inn p hp a ha
        rw [← h4]
        exact hn y hy
    · simp [newOb]
  · intro o ho
    rcases hmem.1 ho with ho | rfl
    · obtain ⟨p, hp, _, _, _, _, h1, _⟩ := addIn_mem ho
      rw [h1]; exact h.cnt p hp
    · simp [newOb]; exact ht
  · intro o ho
    rcases hmem.1 ho with ho | rfl
    · obtain ⟨p, hp, _, _, h1, _⟩ := addIn_mem ho
      rw [h1]; exact h.val p hp
    · simp [newOb, Nm]
  · intro o ho
    rcases hmem.1 ho with ho | rfl
    · obtain ⟨p, hp, _, h1, _⟩ := addIn_mem ho
      rw [h1]; exact h.oub p hp
    · exact hwb
  · intro o ho
    rcases hmem.1 ho with ho | rfl
    · obtain ⟨p, hp, _, _, _, h1, _⟩ := addIn_mem ho
      rw [h1]; exact h.lnk p hp
    · simp [newOb, Nm, Hn]; omega
end Go.Proofs.Ytmampaglemleoaa
