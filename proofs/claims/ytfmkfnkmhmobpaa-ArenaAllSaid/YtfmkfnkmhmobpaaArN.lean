/-
  Which handles were given; the contracts of New and Drop, whichever way they go.
-/
import Derived.Test.YtfmkfnkmhmobpaaPick
namespace Go.Proofs.Ytfmkfnkmhmobpaa
open Go.ChangeShapes Go.WideShapes Go.ChangeAt Go.RowKit

theorem hand_inj {i j g g' : Nat} (hi : i < 4294967295) (hj : j < 4294967295) (h : hand i g = hand j g') : i = j ∧ g = g' := by
  unfold hand at h; omega
/-- A handle that was given. -/
def Past (A : Ar) (h : Int) : Prop := ∃ (i g : Nat) (s : Spot), h = hand i g ∧ A.L[i]? = some s ∧ g ≤ s.g ∧ (i ∈ A.F → g < s.g)
theorem Ok.lt {A : Ar} (h : Ok A) {i : Nat} {s : Spot} (hs : A.L[i]? = some s) : i < 65536 := by
  have := (List.getElem?_eq_some_iff.1 hs).1
  have := h.len
  have := h.m2
  omega
theorem Put.lt {A A' : Ar} {x : Int} {i g : Nat} (h : Ok A) (hp : Put A x i g A') : i < 65536 := by
  cases hp with
  | again F i s hF hs => exact h.lt hs
  | fresh hF hl => have := h.m2; omega
theorem Put.not_past {A A' : Ar} {x : Int} {i g : Nat} (h : Ok A) (hp : Put A x i g A') (hq : Past A (hand i g)) : False := by
  obtain ⟨j, g', s', e, h1, h2, h3⟩ := hq
  have hi := hp.lt h
  obtain ⟨rfl, rfl⟩ := hand_inj (by omega) (by have := h.lt h1; omega) e
  cases hp with
  | again F i s hF hs =>
    rw [hs] at h1; cases h1
    have := h3 (by rw [hF]; simp)
    omega
  | fresh hF hl => simp at h1
theorem Put.past {A A' : Ar} {x : Int} {i g : Nat} (h : Ok A) (hp : Put A x i g A') : Past A' (hand i g) := by
  cases hp with
  | again F i s hF hs =>
    have hnd := h.nd
    rw [hF, List.nodup_append] at hnd
    exact ⟨i, s.g, ⟨x, s.g, true⟩, rfl, List.getElem?_set_self (List.getElem?_eq_some_iff.1 hs).1, Nat.le_refl _, fun hm => absurd rfl (hnd.2.2 i hm i (by simp))⟩
  | fresh hF hl => exact ⟨A.L.length, A.first, ⟨x, A.first, true⟩, rfl, by simp, Nat.le_refl _, fun hm => by rw [hF] at hm; cases hm⟩
theorem Past.put {A A' : Ar} {x : Int} {i g : Nat} {hd : Int} (hp : Put A x i g A') (hq : Past A hd) : Past A' hd := by
  obtain ⟨j, g', s', e, h1, h2, h3⟩ := hq
  cases hp with
  | again F i s hF hs =>
    by_cases hij : i = j
    · subst hij
      rw [hs] at h1; cases h1
      exact ⟨i, g', ⟨x, s'.g, true⟩, e, List.getElem?_set_self (List.getElem?_eq_some_iff.1 hs).1, h2, fun hm => h3 (by rw [hF]; simp [hm])⟩
    · exact ⟨j, g', s', e, by rw [List.getElem?_set_ne hij]; exact h1, h2, fun hm => h3 (by rw [hF]; simp [hm])⟩
  | fresh hF hl =>
    exact ⟨j, g', s', e, by rw [List.getElem?_append_left (List.getElem?_eq_some_iff.1 h1).1]; exact h1, h2, h3⟩
theorem Past.drop {A : Ar} {i : Nat} {s : Spot} {hd : Int} (hs : A.L[i]? = some s) (ht : s.t = true) (hA : Ok A) (hq : Past A hd) : Past (dropAt A i s) hd := by
  obtain ⟨j, g', s', e, h1, h2, h3⟩ := hq
  have hlt := (List.getElem?_eq_some_iff.1 hs).1
  have hni : i ∉ A.F := fun hm => by
    obtain ⟨s2, k1, k2⟩ := hA.fr i hm
    rw [hs] at k1; cases k1; rw [ht] at k2; cases k2
  unfold dropAt
  split
  · by_cases hij : i = j
    · subst hij
      rw [hs] at h1; cases h1
      exact ⟨i, g', ⟨0, s.g + 1, false⟩, e, List.getElem?_set_self hlt, by simp; omega, fun _ => by simp; omega⟩
    · refine ⟨j, g', s', e, by rw [List.getElem?_set_ne hij]; exact h1, h2, fun hm => ?_⟩
      rcases List.mem_append.1 hm with hm | hm
      · exact h3 hm
      · simp at hm; exact absurd hm.symm hij
  · by_cases hij : i = j
    · subst hij
      rw [hs] at h1; cases h1
      exact ⟨i, g', ⟨0, s.g, false⟩, e, List.getElem?_set_self hlt, h2, fun hm => absurd hm hni⟩
    · exact ⟨j, g', s', e, by rw [List.getElem?_set_ne hij]; exact h1, h2, h3⟩
theorem Found.bd {A : Ar} {hd : Int} {i : Nat} {s : Spot} (hA : Ok A) (h : Found A hd i s) : 0 ≤ hd ∧ hd ≤ 18446744073709551615 := by
  have h1 := hA.lt h.1
  have h2 := (hA.gen i s h.1).2
  rw [h.2.2]; unfold hand; omega
theorem Put.bd {A A' : Ar} {x : Int} {i g : Nat} (hA : Ok A) (hp : Put A x i g A') : 0 ≤ hand i g ∧ hand i g ≤ 18446744073709551615 := by
  have h1 := hp.lt hA
  have h2 : g ≤ 4294967295 := by
    cases hp with
    | again F i s hF hs => exact (hA.gen i s hs).2
    | fresh hF hl => exact hA.f2
  unfold hand; omega
theorem Past.bd {A : Ar} {hd : Int} (hA : Ok A) (h : Past A hd) : 0 ≤ hd ∧ hd ≤ 18446744073709551615 := by
  obtain ⟨i, g, s, e, h1, h2, _⟩ := h
  have h3 := hA.lt h1
  have h4 := (hA.gen i s h1).2
  rw [e]; unfold hand; omega

/-- A dropping, whichever way it goes. -/
def DropRel (A : Ar) (hd x er : Int) (A' : Ar) : Prop := (Stale A hd ∧ A' = A ∧ x = 0 ∧ er = 2) ∨ ∃ i s, Found A hd i s ∧ A' = dropAt A i s ∧ x = s.x ∧ er = 0
def DropPost (S : Nat → Prop) (w : World) (p : Nat) (A : Ar) (hd : Int) (e : Ending) (w' : World) : Prop :=
  ∃ x er A', e = .returned (.tuple #[.int .i64 x, .int .i64 er]) ∧ InS (ext S w w') w' p A' ∧ Fr S w w' ∧ DropRel A hd x er A'
theorem Drop_any (S : Nat → Prop) (w : World) (p : Nat) (A : Ar) (hd : Int) (h : InS S w p A) (h0 : 0 ≤ hd) (hm : hd ≤ 18446744073709551615) :
    Calls Try.prog 23 #[.pointer (some ⟨p, 0, none⟩), .int .u64 hd] w (DropPost S w p A hd) := by
  rcases found_or_stale A hd with hs | ⟨i, s, hf⟩
  · refine (Drop_stale S w p A hd h hs h0 hm).mono ?_
    rintro e w' ⟨rfl, rfl⟩
    exact ⟨0, 2, A, rfl, h.wider, Fr.refl _ _, .inl ⟨hs, rfl, rfl, rfl⟩⟩
  · by_cases hw : s.g < 4294967295
    · refine (Drop_again S w p A i s hd h hf hw).mono ?_
      rintro e w' ⟨rfl, h1, h2⟩
      exact ⟨s.x, 0, dropAt A i s, rfl, h1, h2, .inr ⟨i, s, hf, rfl, rfl, rfl⟩⟩
    · refine (Drop_worn S w p A i s hd h hf hw).mono ?_
      rintro e w' ⟨rfl, h1, h2⟩
      exact ⟨s.x, 0, dropAt A i s, rfl, h1.wider, h2, .inr ⟨i, s, hf, rfl, rfl, rfl⟩⟩
theorem New_int (w : World) (mi fi : Int) (m f : Nat) (e1 : mi = m) (e2 : fi = f) (hm : 1 ≤ m ∧ m ≤ 65536) (hf : 1 ≤ f ∧ f ≤ 4294967295) : Calls Try.prog 10 #[.int .i64 mi, .int .u32 fi] w (NewPost w m f) := by
  subst e1; subst e2; exact New_some w m f hm hf

/-- An act. -/
structure Act4 where
  kind : Int
  at' : Int
  x : Int
  raw : Int
def I64 (x : Int) : Prop := -9223372036854775808 ≤ x ∧ x ≤ 9223372036854775807
def U64 (x : Int) : Prop := 0 ≤ x ∧ x ≤ 18446744073709551615
/-- A row of acts that came in. -/
structure Acts (w : World) (B : Nat) (ad : Option Addr) (l : List Act4) : Prop where
  some : 0 < l.length → ∃ a, ad = some a ∧ a.block < B
  at0 : ∀ (i : Nat) (a : Addr) (x : Act4), ad = Option.some a → l[i]? = Option.some x → w.cell? (a.add (i * 4)) = Option.some (.int .i64 x.kind)
  at1 : ∀ (i : Nat) (a : Addr) (x : Act4), ad = Option.some a → l[i]? = Option.some x → w.cell? ⟨(a.add (i * 4)).block, (a.add (i * 4)).off + 1, none⟩ = Option.some (.int .i64 x.at')
  at2 : ∀ (i : Nat) (a : Addr) (x : Act4), ad = Option.some a → l[i]? = Option.some x → w.cell? ⟨(a.add (i * 4)).block, (a.add (i * 4)).off + 2, none⟩ = Option.some (.int .i64 x.x)
  at3 : ∀ (i : Nat) (a : Addr) (x : Act4), ad = Option.some a → l[i]? = Option.some x → w.cell? ⟨(a.add (i * 4)).block, (a.add (i * 4)).off + 3, none⟩ = Option.some (.int .u64 x.raw)
  ok : ∀ x ∈ l, I64 x.kind ∧ I64 x.at' ∧ I64 x.x ∧ U64 x.raw
theorem add_block (a : Addr) (n : Nat) : (a.add n).block = a.block := by unfold Addr.add; split <;> rfl
theorem add_field (a : Addr) (n j : Nat) (hj : 0 < j) : a.add (n + j) = ⟨(a.add n).block, (a.add n).off + j, none⟩ := by
  unfold Addr.add
  rw [if_neg (by omega)]
  split
  · rename_i h; subst h; simp
  · simp; omega
theorem Acts.below {w w' : World} {B : Nat} {ad : Option Addr} {l : List Act4} (h : Acts w B ad l) (hB : Below B w w') : Acts w' B ad l := by
  have key : ∀ (i : Nat) (a : Addr) (x : Act4) (q : Addr), ad = Option.some a → l[i]? = Option.some x → q.block = a.block → w'.cell? q = w.cell? q := fun i a x q ha hx hq => by
    have hlt : i < l.length := (List.getElem?_eq_some_iff.1 hx).1
    obtain ⟨a', h1, h2⟩ := h.some (by omega)
    rw [ha] at h1; cases h1
    exact hB.cell (p := q) (by rw [hq]; exact h2)
  exact ⟨h.some, fun i a x ha hx => (key i a x _ ha hx (add_block _ _)).trans (h.at0 i a x ha hx), fun i a x ha hx => (key i a x ⟨(a.add (i * 4)).block, (a.add (i * 4)).off + 1, none⟩ ha hx (add_block a (i * 4))).trans (h.at1 i a x ha hx),
    fun i a x ha hx => (key i a x ⟨(a.add (i * 4)).block, (a.add (i * 4)).off + 2, none⟩ ha hx (add_block a (i * 4))).trans (h.at2 i a x ha hx), fun i a x ha hx => (key i a x ⟨(a.add (i * 4)).block, (a.add (i * 4)).off + 3, none⟩ ha hx (add_block a (i * 4))).trans (h.at3 i a x ha hx), h.ok⟩

/-- A row of handles of the call's own, beside an arena's footprint. -/
structure HRow (S : Nat → Prop) (B : Nat) (w : World) (v : Value) (xs : List Int) : Prop where
  own : w.ownsRow B 34 1 v xs.length (xs.map (Value.int .u64))
  off : ∀ j, v.ownBlock = some j → ¬ S j
theorem HRow.nil (S : Nat → Prop) (B : Nat) (w : World) : HRow S B w (.slice none 0 0) [] := ⟨World.ownsRow_nil _ _ _ _, fun j hj => by simp [Value.ownBlock] at hj⟩
theorem HRow.fr {S : Nat → Prop} {B : Nat} {w w' : World} {v : Value} {xs : List Int} (h : HRow S B w v xs) (hf : Fr S w w') : HRow (ext S w w') B w' v xs :=
  ⟨hf.owns h.own h.off, fun j hj he => by
    rcases he with he | he
    · exact h.off j hj he
    · have := (h.own.lt j hj).2; omega⟩
theorem HRow.no {S : Nat → Prop} {B : Nat} {w w' : World} {v : Value} {xs : List Int} (h : HRow S B w v xs) (hf : Fr (fun _ => False) w w') : HRow S B w' v xs :=
  ⟨hf.owns h.own (fun _ _ e => e), h.off⟩
theorem HRow.form {S : Nat → Prop} {B : Nat} {w : World} {v : Value} {xs : List Int} (h : HRow S B w v xs) (hn : 0 < xs.length) : ∃ g cap, v = .slice (some ⟨g, 0, none⟩) xs.length cap := by
  obtain ⟨g, cap, h1, _⟩ := h.own.form hn
  exact ⟨g, cap, h1⟩
theorem HRow.shape {S : Nat → Prop} {B : Nat} {w : World} {v : Value} {xs : List Int} (h : HRow S B w v xs) : ∃ a k, v = .slice a xs.length k := by
  rcases h.own.2 with ⟨h1, h2⟩ | ⟨g, cap, _, h1, _⟩
  · exact ⟨none, 0, by rw [h1, h2]⟩
  · exact ⟨_, cap, h1⟩
theorem HRow.cell {S : Nat → Prop} {B : Nat} {w : World} {g cap n : Nat} {xs : List Int} (h : HRow S B w (.slice (some ⟨g, 0, none⟩) n cap) xs) (hn : n = xs.length) (j : Nat) (x : Int) (hx : xs[j]? = some x) : w.cell? ⟨g, j, none⟩ = some (.int .u64 x) := by
  subst hn
  rw [h.own.cellAt j (by have := (List.getElem?_eq_some_iff.1 hx).1; omega)]
  simp [hx]
/-- One more handle behind it. -/
theorem HRow.app {S : Nat → Prop} {B p : Nat} {A : Ar} {w w0 w' : World} {v : Value} {o : Obj} {xs : List Int} {x : Int} {g cap : Nat} (h : HRow S B w v xs) (hI : InS S w p A) (hB : Below B w0 w) (hle : B ≤ w.heap.size)
    (hown : w'.ownsRow B 34 1 (.slice (some ⟨g, 0, none⟩) (xs.length + 1) cap) (xs.length + 1) (xs.map (Value.int .u64) ++ [.int .u64 x])) (hg : (w.alloc o).grownBy w' v.ownBlock) (hat : v.ownBlock = some g ∨ g = w.heap.size + 1) :
    HRow S B w' (.slice (some ⟨g, 0, none⟩) (xs.length + 1) cap) (xs ++ [x]) ∧ InS S w' p A ∧ Below B w0 w' ∧ Fr (fun j => v.ownBlock = some j) w w' := by
  have hfr : Fr (fun j => v.ownBlock = some j) w w' := ((Fr.refl _ _).alloc o).grown hg (fun k hk _ => hk)
  refine ⟨⟨by simpa using hown, fun j hj => ?_⟩, hI.fr hfr (fun k hk e => h.off k e hk), (hB.alloc hle o).grown hg (by simp; omega) (fun k hk => (h.own.lt k hk).1), hfr⟩
  simp [Value.ownBlock] at hj
  subst hj
  rcases hat with e | e
  · exact h.off _ e
  · intro hs; have := hI.lt _ hs; omega
theorem info34 : (Try.prog.info? 34).map (fun i => (i.zero, i.size, i.bytes)) = some (some (.int .u64 0), 1, 8) := by kernel_rfl
end Go.Proofs.Ytfmkfnkmhmobpaa
