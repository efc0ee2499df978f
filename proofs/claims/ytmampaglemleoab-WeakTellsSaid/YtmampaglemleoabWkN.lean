/- WkM WkN in one -/
import Derived.Test.YtmampaglemleoabArP
import Derived.Test.YtmampaglemleoabLib
namespace Go.Proofs.Ytmampaglemleoab
open Go

/-- A block. -/
structure Bl where
  h : Int
  t : Int
  dead : Bool
  n : Int
abbrev WL := List Bl
def fb (L : WL) (h : Int) : Option Bl := L.find? fun b => b.h == h
def lv (L : WL) (t : Int) : Option Bl := L.find? fun b => b.t == t && !b.dead
def setn (L : WL) (h n : Int) : WL := L.map fun b => if b.h = h then { b with n := n } else b
def kill (L : WL) (h : Int) : WL := L.map fun b => if b.h = h then { b with dead := true } else b
def cutb (L : WL) (h : Int) : WL := L.filter fun b => !(b.h == h)
/-- A table: places, blocks. -/
structure Ws where
  A : Ar
  L : WL
inductive WkOf (s : Ws) (t : Int) : Ws → Int → Int → Prop
  | up (b : Bl) (hl : lv s.L t = some b) (hn : b.n ≠ 4294967295) : WkOf s t { s with L := setn s.L b.h (b.n + 1) } b.h 0
  | top (b : Bl) (hl : lv s.L t = some b) (hn : b.n = 4294967295) : WkOf s t s 0 4
  | full (hl : lv s.L t = none) (hF : Full s.A) : WkOf s t s 0 3
  | new (hl : lv s.L t = none) {i g : Nat} {A' : Ar} (hp : Put s.A 0 i g A') : WkOf s t ⟨A', s.L ++ [⟨hand i g, t, false, 1⟩]⟩ (hand i g) 0
inductive WkUp (s : Ws) (h : Int) : Ws → Int → Int → Prop
  | stale (hf : fb s.L h = none) : WkUp s h s 0 2
  | top (b : Bl) (hf : fb s.L h = some b) (hn : b.n = 4294967295) : WkUp s h s 0 4
  | ok (b : Bl) (hf : fb s.L h = some b) (hn : b.n ≠ 4294967295) : WkUp s h { s with L := setn s.L h (b.n + 1) } (b.n + 1) 0
inductive WkDn (s : Ws) (h : Int) : Ws → Int → Int → Prop
  | stale (hf : fb s.L h = none) : WkDn s h s 0 2
  | more (b : Bl) (hf : fb s.L h = some b) (hn : b.n ≠ 1) : WkDn s h { s with L := setn s.L h (b.n - 1) } (b.n - 1) 0
  | last (b : Bl) (hf : fb s.L h = some b) (hn : b.n = 1) {i : Nat} {sp : Spot} (ha : Found s.A h i sp) : WkDn s h ⟨dropAt s.A i sp, cutb s.L h⟩ 0 0
def dieL (L : WL) (t : Int) : WL := match lv L t with | some b => kill L b.h | none => L
def lockR (L : WL) (h : Int) : Int × Int := match fb L h with | none => (0, 2) | some b => if b.dead then (0, 10) else (b.t, 0)
/-- What always holds, but of counts. -/
structure WkJ (s : Ws) : Prop where
  ok : Ok s.A
  nd : (s.L.map (·.h)).Nodup
  pl : ∀ b ∈ s.L, ∃ i sp, Found s.A b.h i sp
  co : ∀ (i : Nat) sp, s.A.L[i]? = some sp → sp.t = true → ∃ b ∈ s.L, b.h = hand i sp.g
  one : ∀ b ∈ s.L, ∀ c ∈ s.L, b.dead = false → c.dead = false → b.t = c.t → b = c
/-- What always holds. -/
structure WkI (s : Ws) : Prop extends WkJ s where
  bd : ∀ b ∈ s.L, U64 b.t ∧ 1 ≤ b.n ∧ b.n ≤ 4294967295

theorem fb_some {L : WL} {h : Int} {b : Bl} (e : fb L h = some b) : b ∈ L ∧ b.h = h :=
  ⟨List.mem_of_find?_eq_some e, by simpa using List.find?_some e⟩
theorem fb_none {L : WL} {h : Int} : fb L h = none ↔ ∀ b ∈ L, b.h ≠ h := by
  unfold fb
  rw [List.find?_eq_none]
  exact ⟨fun k o ho => by simpa using k o ho, fun k o ho => by simpa using k o ho⟩
theorem lv_some {L : WL} {t : Int} {b : Bl} (e : lv L t = some b) : b ∈ L ∧ b.t = t ∧ b.dead = false := by
  have h := List.find?_some e
  simp at h
  exact ⟨List.mem_of_find?_eq_some e, h.1, h.2⟩
theorem lv_none {L : WL} {t : Int} : lv L t = none ↔ ∀ b ∈ L, b.dead = false → b.t ≠ t := by
  unfold lv
  rw [List.find?_eq_none]
  constructor
  · intro k b hb hd e
    have := k b hb
    simp [hd, e] at this
  · intro k b hb
    have := k b hb
    simp
    intro e
    cases hd : b.dead with
    | true => rfl
    | false => exact absurd e (this hd)
theorem bl_eq {L : WL} (hn : (L.map (·.h)).Nodup) {a b : Bl} (ha : a ∈ L) (hb : b ∈ L) (e : a.h = b.h) : a = b := by
  induction L with
  | nil => cases ha
  | cons c L ih =>
    rw [List.map_cons, List.nodup_cons] at hn
    rcases List.mem_cons.1 ha with ha1 | ha1
    · rcases List.mem_cons.1 hb with hb1 | hb1
      · rw [ha1, hb1]
      · exact absurd (List.mem_map.2 ⟨b, hb1, by rw [← e, ha1]⟩) hn.1
    · rcases List.mem_cons.1 hb with hb1 | hb1
      · exact absurd (List.mem_map.2 ⟨a, ha1, by rw [e, hb1]⟩) hn.1
      · exact ih hn.2 ha1 hb1
theorem fb_mem {L : WL} (hn : (L.map (·.h)).Nodup) {b : Bl} (h : b ∈ L) : fb L b.h = some b := by
  cases e : fb L b.h with
  | none => exact absurd rfl (fb_none.1 e b h)
  | some c =>
    obtain ⟨h1, h2⟩ := fb_some e
    rw [bl_eq hn h1 h h2]
theorem WkJ.lv_mem {s : Ws} (h : WkJ s) {b : Bl} (hb : b ∈ s.L) (hd : b.dead = false) : lv s.L b.t = some b := by
  cases e : lv s.L b.t with
  | none => exact absurd rfl (lv_none.1 e b hb hd)
  | some c =>
    obtain ⟨h1, h2, h3⟩ := lv_some e
    rw [h.one c h1 b hb h3 hd h2]
theorem setn_h (L : WL) (h n : Int) : (setn L h n).map (·.h) = L.map (·.h) := by
  unfold setn
  rw [List.map_map]
  refine List.map_congr_left fun o _ => ?_
  simp only [Function.comp]
  split <;> rfl
theorem kill_h (L : WL) (h : Int) : (kill L h).map (·.h) = L.map (·.h) := by
  unfold kill
  rw [List.map_map]
  refine List.map_congr_left fun o _ => ?_
  simp only [Function.comp]
  split <;> rfl
theorem mem_setn {L : WL} {h n : Int} {o : Bl} : o ∈ setn L h n ↔ ∃ p ∈ L, o = if p.h = h then { p with n := n } else p := by
  unfold setn
  rw [List.mem_map]
  exact ⟨fun ⟨p, h1, h2⟩ => ⟨p, h1, h2.symm⟩, fun ⟨p, h1, h2⟩ => ⟨p, h1, h2.symm⟩⟩
theorem mem_kill {L : WL} {h : Int} {o : Bl} : o ∈ kill L h ↔ ∃ p ∈ L, o = if p.h = h then { p with dead := true } else p := by
  unfold kill
  rw [List.mem_map]
  exact ⟨fun ⟨p, h1, h2⟩ => ⟨p, h1, h2.symm⟩, fun ⟨p, h1, h2⟩ => ⟨p, h1, h2.symm⟩⟩
theorem mem_cutb {L : WL} {h : Int} {o : Bl} : o ∈ cutb L h ↔ o ∈ L ∧ o.h ≠ h := by
  unfold cutb
  simp [List.mem_filter]
/-- The same blocks, but for counts: nothing else turns. -/
theorem setn_key {L : WL} {x n : Int} {o : Bl} (ho : o ∈ setn L x n) : ∃ p ∈ L, o.h = p.h ∧ o.t = p.t ∧ o.dead = p.dead ∧ (o.n = p.n ∨ o.n = n) ∧ o = if p.h = x then { p with n := n } else p := by
  obtain ⟨p, hp, e⟩ := mem_setn.1 ho
  by_cases hx : p.h = x
  · exact ⟨p, hp, by rw [e, if_pos hx], by rw [e, if_pos hx], by rw [e, if_pos hx], .inr (by rw [e, if_pos hx]), e⟩
  · exact ⟨p, hp, by rw [e, if_neg hx], by rw [e, if_neg hx], by rw [e, if_neg hx], .inl (by rw [e, if_neg hx]), e⟩
theorem WkJ.cnts {s : Ws} (h : WkJ s) {x n : Int} : WkJ { s with L := setn s.L x n } := by
  refine ⟨h.ok, by rw [setn_h]; exact h.nd, fun o ho => ?_, fun i sp h1 h2 => ?_, fun b hb c hc h1 h2 h3 => ?_⟩
  · obtain ⟨p, hp, e, _⟩ := setn_key ho
    rw [e]; exact h.pl p hp
  · obtain ⟨b, hb, e⟩ := h.co i sp h1 h2
    exact ⟨_, mem_setn.2 ⟨b, hb, rfl⟩, by split <;> exact e⟩
  · obtain ⟨p, hp, _, e2, e3, _, e4⟩ := setn_key hb
    obtain ⟨q, hq, _, f2, f3, _, f4⟩ := setn_key hc
    have := h.one p hp q hq (by rw [← e3]; exact h1) (by rw [← f3]; exact h2) (by rw [← e2, ← f2]; exact h3)
    rw [e4, f4, this]
theorem WkI.cnts {s : Ws} (h : WkI s) {x n : Int} (hn : 1 ≤ n ∧ n ≤ 4294967295) : WkI { s with L := setn s.L x n } :=
  ⟨h.toWkJ.cnts, fun o ho => by
    obtain ⟨p, hp, _, e2, _, e3, _⟩ := setn_key ho
    have := h.bd p hp
    rw [e2]
    rcases e3 with e3 | e3
    · rw [e3]; exact this
    · rw [e3]; exact ⟨this.1, hn⟩⟩
theorem WkI.kill {s : Ws} (h : WkI s) (x : Int) : WkI { s with L := kill s.L x } := by
  have key : ∀ o ∈ Go.Proofs.Ytmampaglemleoab.kill s.L x, ∃ p ∈ s.L, o.h = p.h ∧ o.t = p.t ∧ o.n = p.n ∧ (o.dead = false → o = p) := fun o ho => by
    obtain ⟨p, hp, e⟩ := mem_kill.1 ho
    by_cases hx : p.h = x
    · exact ⟨p, hp, by rw [e, if_pos hx], by rw [e, if_pos hx], by rw [e, if_pos hx], fun hd => by rw [e, if_pos hx] at hd; cases hd⟩
    · exact ⟨p, hp, by rw [e, if_neg hx], by rw [e, if_neg hx], by rw [e, if_neg hx], fun _ => by rw [e, if_neg hx]⟩
  refine ⟨⟨h.ok, by rw [kill_h]; exact h.nd, fun o ho => ?_, fun i sp h1 h2 => ?_, fun b hb c hc h1 h2 h3 => ?_⟩, fun o ho => ?_⟩
  · obtain ⟨p, hp, e, _⟩ := key o ho
    rw [e]; exact h.pl p hp
  · obtain ⟨b, hb, e⟩ := h.co i sp h1 h2
    exact ⟨_, mem_kill.2 ⟨b, hb, rfl⟩, by split <;> exact e⟩
  · obtain ⟨p, hp, _, _, _, e4⟩ := key b hb
    obtain ⟨q, hq, _, _, _, f4⟩ := key c hc
    have e5 := e4 h1
    have f5 := f4 h2
    subst e5 f5
    exact h.one b hp c hq h1 h2 h3
  · obtain ⟨p, hp, _, e2, e3, _⟩ := key o ho
    rw [e2, e3]
    exact h.bd p hp
theorem WkI.die {s : Ws} (h : WkI s) (t : Int) : WkI { s with L := dieL s.L t } := by
  unfold dieL
  cases lv s.L t with
  | none => exact h
  | some b => exact h.kill b.h
theorem WkI.cut {s : Ws} (h : WkI s) {x : Int} {i : Nat} {sp : Spot} (hf : Found s.A x i sp) : WkI ⟨dropAt s.A i sp, cutb s.L x⟩ := by
  refine ⟨⟨drop_ok h.ok hf.1 hf.2.1, List.Nodup.sublist (List.Sublist.map _ List.filter_sublist) h.nd, fun b hb => ?_, fun j r h1 h2 => ?_, fun b hb c hc => h.one b (mem_cutb.1 hb).1 c (mem_cutb.1 hc).1⟩, fun b hb => h.bd b (mem_cutb.1 hb).1⟩
  · obtain ⟨hb, hne⟩ := mem_cutb.1 hb
    obtain ⟨j, r, f1, f2, f3⟩ := h.pl b hb
    refine ⟨j, r, (drop_at hf.1 j r f2).2 ⟨f1, fun e => ?_⟩, f2, f3⟩
    subst e
    rw [hf.1] at f1
    cases f1
    exact hne (f3.trans hf.2.2.symm)
  · obtain ⟨h3, h4⟩ := (drop_at hf.1 j r h2).1 h1
    obtain ⟨b, hb, e⟩ := h.co j r h3 h2
    refine ⟨b, mem_cutb.2 ⟨hb, fun k => h4 ?_⟩, e⟩
    have k1 := h.ok.lt h3
    have k2 := h.ok.lt hf.1
    exact (hand_inj2 (by omega) (by omega) ((e.symm.trans k).trans hf.2.2)).1
theorem WkI.fresh {s : Ws} (h : WkI s) {i g : Nat} {A' : Ar} {x : Int} (hp : Put s.A x i g A') : ∀ b ∈ s.L, b.h ≠ hand i g := fun b hb e => by
  obtain ⟨j, r, f1, f2, f3⟩ := h.pl b hb
  have k1 := h.ok.lt f1
  have k2 := hp.lt h.ok
  obtain ⟨rfl, _⟩ := hand_inj2 (by omega) (by omega) (f3.symm.trans e)
  rw [hp.free h.ok r f1] at f2
  cases f2
theorem WkI.add {s : Ws} (h : WkI s) {t : Int} (ht : U64 t) (hl : lv s.L t = none) {i g : Nat} {A' : Ar} (hp : Put s.A 0 i g A') : WkI ⟨A', s.L ++ [⟨hand i g, t, false, 1⟩]⟩ := by
  have hfr := h.fresh hp
  have hspot : A'.L[i]? = some ⟨0, g, true⟩ := (hp.at h.ok i ⟨0, g, true⟩ rfl).2 (.inr ⟨rfl, rfl⟩)
  refine ⟨⟨hp.ok h.ok, ?_, fun b hb => ?_, fun j r h1 h2 => ?_, fun b hb c hc h1 h2 h3 => ?_⟩, fun b hb => ?_⟩
  · rw [List.map_append, List.nodup_append]
    refine ⟨h.nd, by simp, fun a ha b hb => ?_⟩
    obtain ⟨c, hc, rfl⟩ := List.mem_map.1 ha
    simp at hb
    subst hb
    exact hfr c hc
  · rcases List.mem_append.1 hb with hb | hb
    · obtain ⟨j, r, f1, f2, f3⟩ := h.pl b hb
      refine ⟨j, r, (hp.at h.ok j r f2).2 (.inl ⟨f1, fun e => ?_⟩), f2, f3⟩
      subst e
      rw [hp.free h.ok r f1] at f2
      cases f2
    · simp at hb
      subst hb
      exact ⟨i, _, hspot, rfl, rfl⟩
  · rcases (hp.at h.ok j r h2).1 h1 with ⟨h3, _⟩ | ⟨rfl, rfl⟩
    · obtain ⟨b, hb, e⟩ := h.co j r h3 h2
      exact ⟨b, List.mem_append_left _ hb, e⟩
    · exact ⟨_, List.mem_append_right _ (List.mem_singleton.2 rfl), rfl⟩
  · have hno := lv_none.1 hl
    rcases List.mem_append.1 hb with hb | hb
    · rcases List.mem_append.1 hc with hc | hc
      · exact h.one b hb c hc h1 h2 h3
      · simp at hc
        subst hc
        exact absurd h3 (hno b hb h1)
    · simp at hb
      subst hb
      rcases List.mem_append.1 hc with hc | hc
      · exact absurd h3.symm (hno c hc h2)
      · simp at hc
        exact hc.symm
  · rcases List.mem_append.1 hb with hb | hb
    · exact h.bd b hb
    · simp at hb
      subst hb
      exact ⟨ht, by simp⟩
theorem WkI.new {m : Nat} (hm : 1 ≤ m ∧ m ≤ 65536) : WkI ⟨Go.Proofs.Ytmampaglemleoab.new m 1, []⟩ :=
  ⟨⟨new_ok hm (by omega), by simp, by simp, by simp [Go.Proofs.Ytmampaglemleoab.new], by simp⟩, by simp⟩
theorem WkJ.hbd {s : Ws} (h : WkJ s) {b : Bl} (hb : b ∈ s.L) : 1 ≤ b.h ∧ b.h ≤ 18446744073709551615 := by
  obtain ⟨i, sp, f1, f2, f3⟩ := h.pl b hb
  rw [f3]
  exact hand_bd h.ok f1
theorem WkOf.inv {s s' : Ws} {t h e : Int} (hr : WkOf s t s' h e) (hs : WkI s) (ht : U64 t) : WkI s' := by
  cases hr with
  | up b hl hn => have := hs.bd b (lv_some hl).1; exact hs.cnts (by omega)
  | top => exact hs
  | full => exact hs
  | new hl hp => exact hs.add ht hl hp
theorem WkUp.inv {s s' : Ws} {h n e : Int} (hr : WkUp s h s' n e) (hs : WkI s) : WkI s' := by
  cases hr with
  | stale => exact hs
  | top => exact hs
  | ok b hf hn => have := hs.bd b (fb_some hf).1; exact hs.cnts (by omega)
theorem WkDn.inv {s s' : Ws} {h n e : Int} (hr : WkDn s h s' n e) (hs : WkI s) : WkI s' := by
  cases hr with
  | stale => exact hs
  | more b hf hn => have := hs.bd b (fb_some hf).1; exact hs.cnts (by omega)
  | last b hf hn ha => exact hs.cut ha
/-- How many there are. -/
theorem cnt_length : ∀ (l : List Int) (L : List Spot) (k : Nat), l.Nodup → (∀ x ∈ l, ∃ (i : Nat) (s : Spot), L[i]? = some s ∧ s.t = true ∧ x = hand (k + i) s.g) → (∀ (i : Nat) s, L[i]? = some s → i + k < 4294967295) → l.length ≤ L.length := by
  intro l L
  induction L generalizing l with
  | nil =>
    intro k _ h _
    cases l with
    | nil => simp
    | cons x l => obtain ⟨i, s, h1, _⟩ := h x (by simp); simp at h1
  | cons a L ih =>
    intro k hn h hb
    have hsub : (l.filter fun x => !(x == hand k a.g)).length ≤ L.length := by
      refine ih _ (k + 1) (hn.sublist List.filter_sublist) (fun x hx => ?_) (fun i s hs => by have := hb (i + 1) s (by simpa using hs); omega)
      obtain ⟨h1, h2⟩ := List.mem_filter.1 hx
      obtain ⟨i, s, e1, e2, e3⟩ := h x h1
      cases i with
      | zero =>
        simp at e1
        subst e1
        simp at e3 h2
        exact absurd e3 h2
      | succ i => exact ⟨i, s, by simpa using e1, e2, by rw [e3]; congr 1; omega⟩
    have hle : l.length ≤ (l.filter fun x => !(x == hand k a.g)).length + 1 := by
      clear ih h hb hsub
      induction l with
      | nil => simp
      | cons x l ih =>
        rw [List.nodup_cons] at hn
        by_cases e : x = hand k a.g
        · subst e
          have : (l.filter fun x => !(x == hand k a.g)) = l := List.filter_eq_self.2 fun y hy => by
            have : y ≠ hand k a.g := fun e => hn.1 (e ▸ hy)
            simpa using this
          rw [List.filter_cons_of_neg (by simp), this]
          simp
        · rw [List.filter_cons_of_pos (by simpa using e)]
          have := ih hn.2
          simp only [List.length_cons]; omega
    simp only [List.length_cons]
    omega
theorem WkI.len {s : Ws} (h : WkI s) : s.L.length ≤ 65536 := by
  have h1 := cnt_length (s.L.map (·.h)) s.A.L 0 h.nd (fun x hx => by
    obtain ⟨b, hb, rfl⟩ := List.mem_map.1 hx
    obtain ⟨i, sp, f1, f2, f3⟩ := h.pl b hb
    exact ⟨i, sp, f1, f2, by simpa using f3⟩) (fun i sp hs => by have := h.ok.lt hs; omega)
  rw [List.length_map] at h1
  have := h.ok.len
  have := h.ok.m2
  omega
end Go.Proofs.Ytmampaglemleoab

namespace Go.Proofs.Ytmampaglemleoab
open Go

/-- Each block's count is how often it stands in R. -/
structure EJ (s : Ws) (R : List Int) : Prop where
  cn : ∀ b ∈ s.L, b.n = (R.count b.h : Nat)
  has : ∀ x ∈ R, ∃ b ∈ s.L, b.h = x
theorem EJ.nil (A : Ar) : EJ ⟨A, []⟩ [] := ⟨by simp, by simp⟩
theorem EJ.of {s s' : Ws} {R : List Int} {t h : Int} (hj : EJ s R) (hs : WkI s) (hr : WkOf s t s' h 0) : EJ s' (R ++ [h]) := by
  cases hr with
  | up b hl hn =>
    obtain ⟨h1, _, _⟩ := lv_some hl
    refine ⟨fun o ho => ?_, fun x hx => ?_⟩
    · obtain ⟨p, hp, e1, _, _, _, e⟩ := setn_key ho
      rw [e1, List.count_append]
      by_cases hx : p.h = b.h
      · rw [e, if_pos hx, hx]
        have := hj.cn b h1
        simp
        omega
      · rw [e, if_neg hx, hj.cn p hp]
        have : List.count p.h [b.h] = 0 := by rw [List.count_eq_zero]; simpa using hx
        rw [this]; rfl
    · have key : ∀ p ∈ s.L, ∃ q ∈ setn s.L b.h (b.n + 1), q.h = p.h := fun p hp => ⟨_, mem_setn.2 ⟨p, hp, rfl⟩, by split <;> rfl⟩
      rcases List.mem_append.1 hx with hx | hx
      · obtain ⟨p, hp, e⟩ := hj.has x hx
        obtain ⟨q, hq, e2⟩ := key p hp
        exact ⟨q, hq, e2.trans e⟩
      · simp at hx
        subst hx
        exact key b h1
  | new hl hp =>
    have hfr := hs.fresh hp
    rename_i i g A'
    refine ⟨fun o ho => ?_, fun x hx => ?_⟩
    · rw [List.count_append]
      rcases List.mem_append.1 ho with ho | ho
      · have : List.count o.h [hand i g] = 0 := by rw [List.count_eq_zero]; simpa using hfr o ho
        rw [this, hj.cn o ho]; rfl
      · simp at ho
        subst ho
        have : List.count (hand i g) R = 0 := by
          rw [List.count_eq_zero]
          intro hm
          obtain ⟨b, hb, e⟩ := hj.has _ hm
          exact hfr b hb e
        simp [this]
    · rcases List.mem_append.1 hx with hx | hx
      · obtain ⟨b, hb, e⟩ := hj.has x hx
        exact ⟨b, List.mem_append_left _ hb, e⟩
      · simp at hx
        subst hx
        exact ⟨_, List.mem_append_right _ (List.mem_singleton.2 rfl), rfl⟩
theorem EJ.die {s : Ws} {R : List Int} (hj : EJ s R) (t : Int) : EJ { s with L := dieL s.L t } R := by
  unfold dieL
  cases lv s.L t with
  | none => exact hj
  | some b =>
    refine ⟨fun o ho => ?_, fun x hx => ?_⟩
    · obtain ⟨p, hp, e⟩ := mem_kill.1 ho
      have h1 : o.h = p.h ∧ o.n = p.n := by rw [e]; split <;> exact ⟨rfl, rfl⟩
      rw [h1.1, h1.2]
      exact hj.cn p hp
    · obtain ⟨p, hp, e⟩ := hj.has x hx
      exact ⟨_, mem_kill.2 ⟨p, hp, rfl⟩, by split <;> exact e⟩
theorem EJ.dn {s s' : Ws} {R : List Int} {x n er : Int} (hj : EJ s (x :: R)) (hs : WkI s) (hr : WkDn s x s' n er) : er = 0 ∧ EJ s' R := by
  obtain ⟨b0, hb0, e0⟩ := hj.has x (by simp)
  have hfb : fb s.L x = some b0 := by rw [← e0]; exact fb_mem hs.nd hb0
  have hc : ∀ p ∈ s.L, p.h ≠ x → p.n = (R.count p.h : Nat) := fun p hp hne => by
    rw [hj.cn p hp, List.count_cons_of_ne (fun e => hne e.symm)]
  have hc0 : b0.n = (R.count x : Nat) + 1 := by
    have := hj.cn b0 hb0
    rw [e0, List.count_cons_self] at this
    omega
  cases hr with
  | stale hf => rw [hfb] at hf; cases hf
  | more b hf hn =>
    rw [hfb] at hf
    cases hf
    refine ⟨rfl, fun o ho => ?_, fun y hy => ?_⟩
    · obtain ⟨p, hp, e1, _, _, _, e⟩ := setn_key ho
      rw [e1]
      by_cases hx : p.h = x
      · rw [e, if_pos hx, hx]
        simp only
        omega
      · rw [e, if_neg hx]
        exact hc p hp hx
    · obtain ⟨p, hp, e⟩ := hj.has y (by simp [hy])
      exact ⟨_, mem_setn.2 ⟨p, hp, rfl⟩, by split <;> exact e⟩
  | last b hf hn ha =>
    rw [hfb] at hf
    cases hf
    have hz : R.count x = 0 := by omega
    refine ⟨rfl, fun o ho => ?_, fun y hy => ?_⟩
    · obtain ⟨h1, h2⟩ := mem_cutb.1 ho
      exact hc o h1 h2
    · obtain ⟨p, hp, e⟩ := hj.has y (by simp [hy])
      refine ⟨p, mem_cutb.2 ⟨hp, fun k => ?_⟩, e⟩
      rw [List.count_eq_zero] at hz
      exact hz (by rw [← k, e]; exact hy)
theorem EJ.le {s : Ws} {R : List Int} (hj : EJ s R) {b : Bl} (hb : b ∈ s.L) : b.n ≤ R.length := by
  rw [hj.cn b hb]
  have := List.count_le_length (a := b.h) (l := R)
  omega
theorem EJ.empty {s : Ws} (hj : EJ s []) (hs : WkI s) : s.L = [] := by
  cases hl : s.L with
  | nil => rfl
  | cons b l =>
    have hb : b ∈ s.L := by rw [hl]; simp
    have h1 := hj.cn b hb
    have h2 := (hs.bd b hb).2.1
    simp at h1
    omega
/-- How many places are in use. -/
theorem WkOf.places {s s' : Ws} {t h e : Int} (hr : WkOf s t s' h e) : s'.A.L.length ≤ s.A.L.length + 1 ∧ s'.A.most = s.A.most := by
  cases hr with
  | up => exact ⟨by simp, rfl⟩
  | top => exact ⟨by simp, rfl⟩
  | full => exact ⟨by simp, rfl⟩
  | new hl hp =>
    cases hp with
    | again F i s hF hs => exact ⟨by simp, rfl⟩
    | fresh hF hl => exact ⟨by simp, rfl⟩
theorem WkOf.ok {s s' : Ws} {t h e : Int} (hr : WkOf s t s' h e) (h1 : s.A.L.length < s.A.most) (h2 : ∀ b ∈ s.L, b.n < 4294967295) : e = 0 := by
  cases hr with
  | up => rfl
  | top b hl hn => have := h2 b (lv_some hl).1; omega
  | full hl hF => have := hF.2; omega
  | new => rfl
theorem WkDn.places {s s' : Ws} {h n e : Int} (hr : WkDn s h s' n e) : s'.A.L.length = s.A.L.length ∧ s'.A.most = s.A.most := by
  cases hr with
  | stale => exact ⟨rfl, rfl⟩
  | more => exact ⟨rfl, rfl⟩
  | last b hf hn ha => unfold dropAt; split <;> exact ⟨by simp, rfl⟩
end Go.Proofs.Ytmampaglemleoab
