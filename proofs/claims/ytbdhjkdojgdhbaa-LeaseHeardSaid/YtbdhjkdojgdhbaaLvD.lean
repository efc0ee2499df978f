/-
  Leases: Tick (a map is gone through, from which is deleted), plainly and between two rounds.
-/
import Derived.Test.YtbdhjkdojgdhbaaLvC
import Derived.Test.YtbdhjkdojgdhbaaLsD
import Derived.Test.YtbdhjkdojgdhbaaSoL
import Derived.Maps.RangeWalk
namespace Go.Proofs.Ytbdhjkdojgdhbaa
open Go Go.ChangeShapes Go.WideShapes Go.ChangeAt Go.RowKit Go.Maps

/-- Those that are in it while it is gone through: who is to come, and who came and stays. -/
def remL (z : Lz) (left : Lit → Bool) : List On := z.l.filter (fun y => left (.int .u64 y.1) || !dueB z y)
def strike (left : Lit → Bool) (x : Int) : Lit → Bool := fun q => left q && !q.sameKey (.int .u64 x)
theorem strike_at (left : Lit → Bool) (x y : Int) : strike left x (.int .u64 y) = (left (.int .u64 y) && !decide (y = x)) := by unfold strike; rw [same_o]
theorem rem_start (z : Lz) : remL z (Maps.has (datO z.l)) = z.l := by
  unfold remL
  rw [List.filter_eq_self]
  intro y hy
  rw [datO_has, show hasK y.1 z.l = true from List.any_eq_true.2 ⟨y, hy, by simp⟩]
  rfl
theorem rise_key {l : List On} (h : Rise l) {x y : On} (hx : x ∈ l) (hy : y ∈ l) (he : x.1 = y.1) : x = y := by
  obtain ⟨i, hi⟩ := List.mem_iff_getElem?.1 hx
  obtain ⟨j, hj⟩ := List.mem_iff_getElem?.1 hy
  obtain rfl := rise_one h hi hj he
  rw [hi] at hj
  exact Option.some.inj hj
theorem rem_skip {z : Lz} (h : Rise z.l) {left : Lit → Bool} {x c : Int} (hx : (x, c) ∈ z.l) (hd : dueB z (x, c) = false) : remL z (strike left x) = remL z left := by
  refine List.filter_congr fun y hy => ?_
  rw [strike_at]
  by_cases e : y.1 = x
  · rw [rise_key h hy hx e, hd]; simp
  · simp [e]
theorem rem_cut {z : Lz} (h : Rise z.l) {left : Lit → Bool} {x c : Int} (hx : (x, c) ∈ z.l) (hd : dueB z (x, c) = true) : outK x (remL z left) = remL z (strike left x) := by
  unfold outK remL
  rw [List.filter_filter]
  refine List.filter_congr fun y hy => ?_
  rw [strike_at]
  by_cases e : y.1 = x
  · rw [rise_key h hy hx e, hd]; simp
  · simp [e]
theorem rem_end {z : Lz} {left : Lit → Bool} (h : ∀ q, left q = false) : remL z left = restK z := by
  unfold remL restK
  refine List.filter_congr fun y _ => ?_
  rw [h]; rfl
theorem mem_over {z : Lz} {x : Int} : x ∈ overK z ↔ ∃ t, (x, t) ∈ z.l ∧ dueB z (x, t) = true := by
  unfold overK
  rw [List.mem_map]
  constructor
  · rintro ⟨⟨a, t⟩, h1, rfl⟩
    rw [List.mem_filter] at h1
    exact ⟨t, h1.1, h1.2⟩
  · rintro ⟨t, h1, h2⟩
    exact ⟨(x, t), List.mem_filter.2 ⟨h1, h2⟩, rfl⟩
theorem over_rise {z : Lz} (h : Rise z.l) : (overK z).Pairwise (· < ·) := by
  unfold overK
  rw [List.pairwise_map]
  exact List.Pairwise.sublist List.filter_sublist h
/-- Those who are over, as they came. -/
def CollO (z : Lz) (left : Lit → Bool) (ss : List Int) : Prop := ss.Nodup ∧ ∀ x, x ∈ ss ↔ (x ∈ overK z ∧ left (.int .u64 x) = false)
theorem CollO.start (z : Lz) : CollO z (Maps.has (datO z.l)) [] := by
  refine ⟨List.nodup_nil, fun x => ⟨(fun h => by cases h), fun ⟨h1, h2⟩ => ?_⟩⟩
  obtain ⟨t, h3, _⟩ := mem_over.1 h1
  rw [datO_has, show hasK x z.l = true from List.any_eq_true.2 ⟨_, h3, by simp⟩] at h2
  cases h2
theorem CollO.skip {z : Lz} (hr : Rise z.l) {left : Lit → Bool} {ss : List Int} {x c : Int} (h : CollO z left ss) (hx : (x, c) ∈ z.l) (hd : dueB z (x, c) = false) : CollO z (strike left x) ss := by
  refine ⟨h.1, fun y => ?_⟩
  rw [h.2 y, strike_at]
  refine and_congr_right fun hy => ?_
  have : y ≠ x := fun e => by
    obtain ⟨t, h3, h4⟩ := mem_over.1 hy
    subst e
    rw [rise_key hr h3 hx rfl, hd] at h4
    cases h4
  simp [this]
theorem CollO.take {z : Lz} {left : Lit → Bool} {ss : List Int} {x c : Int} (h : CollO z left ss) (hl : left (.int .u64 x) = true) (hx : (x, c) ∈ z.l) (hd : dueB z (x, c) = true) : CollO z (strike left x) (ss ++ [x]) := by
  refine ⟨?_, fun y => ?_⟩
  · rw [List.nodup_append]
    refine ⟨h.1, by simp, fun a ha b hb e => ?_⟩
    simp at hb
    subst hb; subst e
    have := ((h.2 a).1 ha).2
    rw [hl] at this; cases this
  · rw [List.mem_append, h.2 y, strike_at]
    simp only [List.mem_singleton]
    constructor
    · rintro (⟨h1, h2⟩ | rfl)
      · exact ⟨h1, by rw [h2]; rfl⟩
      · exact ⟨mem_over.2 ⟨c, hx, hd⟩, by simp⟩
    · rintro ⟨h1, h2⟩
      by_cases e : y = x
      · exact .inr e
      · exact .inl ⟨h1, by simpa [e] using h2⟩
theorem CollO.perm {z : Lz} (hr : Rise z.l) {left : Lit → Bool} {ss : List Int} (h : CollO z left ss) (hl : ∀ q, left q = false) : ss.Perm (overK z) := by
  rw [List.perm_ext_iff_of_nodup h.1 (List.Pairwise.imp (fun h e => by omega) (over_rise hr))]
  intro x
  rw [h.2 x, hl]
  simp
theorem fr_ranges {H : Type} {P : Program} {k : TypeId} {R : Value → Option (DataW H × List MemPlace)} {w w' : World} {b r n cnt : Nat} {D : DataW H} {left : Lit → Bool} {fp : Nat → Prop} (h : w.ranges P k R b r n D left cnt) (hf : Fr fp w w') (hb : ¬ fp b) (hr : ¬ fp r) : w'.ranges P k R b r n D left cnt := by
  have h1 := h.lt
  have h2 := h.owns.lt
  obtain ⟨es, clock, since, seen, c0, e1, e2, e3, e4, e5, e6⟩ := h
  exact ⟨es, clock, since, seen, c0, (hf.block b h2 hb).trans e1, e2, e3, e4, (hf.block r h1 hr).trans e5, e6⟩
/-- Between two rounds. -/
structure TkW (w wr : World) (p b r n : Nat) (z : Lz) (left : Lit → Bool) (cnt : Nat) (vo : Value) (ss : List Int) : Prop where
  rg : wr.ranges Try.prog TU (plainElem (H := Unit) Try.prog 3) b r n (datO (remL z left)) left cnt
  hp : wr.heap[p]? = some (.cells #[iv z.time, iv (z.now + 1), .map (some b)] TLz (0, 0))
  row : wr.ownsRow w.heap.size TU 1 vo ss.length (ss.map u64v)
  cl : CollO z left ss
  fr : Fr (fun k => k = p ∨ k = b) w wr
  le : ss.length + cnt ≤ z.l.length
  rb : w.heap.size ≤ r
section
variable {w wr w2 : World} {p b r n cnt : Nat} {z : Lz} {left : Lit → Bool} {vo : Value} {ss : List Int}
theorem TkW.lei {w0 : World} (h : TkW w wr p b r n z left cnt vo ss) (h0 : LeI w0 p b n z) : LeI wr p b n ⟨z.time, z.now + 1, remL z left⟩ :=
  ⟨h.hp, h.rg.owns, h0.ne, h0.tm, fun x hx => h0.hk x (List.mem_filter.1 hx).1⟩
theorem TkW.no (h : TkW w wr p b r n z left cnt vo ss) (hf : Fr (fun _ => False) wr w2) : TkW w w2 p b r n z left cnt vo ss :=
  ⟨fr_ranges h.rg hf (fun e => e) (fun e => e), by rw [hf.block p (Array.getElem?_eq_some_iff.1 h.hp).1 (fun e => e)]; exact h.hp, hf.owns h.row (fun _ _ e => e), h.cl, h.fr.trans hf (fun _ e _ => e.elim), h.le, h.rb⟩
/-- The next one came. -/
theorem TkW.next (h : TkW w wr p b r n z left cnt vo ss) {x : Int} {cnt2 : Nat} (hp : p < w.heap.size) (hg : wr.grownBy w2 (some r)) (hrg : w2.ranges Try.prog TU (plainElem (H := Unit) Try.prog 3) b r n (datO (remL z left)) (strike left x) cnt2) :
    Fr (fun k => k = p ∨ k = b) w w2 ∧ w2.heap[p]? = some (.cells #[iv z.time, iv (z.now + 1), .map (some b)] TLz (0, 0)) ∧ w2.ownsRow w.heap.size TU 1 vo ss.length (ss.map u64v) := by
  have hf : Fr (fun k => k = r) wr w2 := (Fr.refl _ _).grown hg (fun k e _ => (Option.some.inj e).symm)
  have hrb := h.rb
  refine ⟨h.fr.trans hf (fun k e hk => by omega), by rw [hf.block p (Array.getElem?_eq_some_iff.1 h.hp).1 (by omega)]; exact h.hp, hf.owns h.row (fun k hk e => ?_)⟩
  subst e
  obtain ⟨es, clock, since, seen, c0, _, _, _, _, h5, _⟩ := h.rg
  rcases h.row.2 with ⟨rfl, _⟩ | ⟨g, cap, cur, rfl, _, hgb, _⟩
  · cases hk
  · cases hk
    rw [hgb] at h5
    cases h5
end
end Go.Proofs.Ytbdhjkdojgdhbaa
