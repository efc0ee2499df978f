/- ClW ClX CmR in one -/
import Derived.Test.YtgfimkeopohjaaaDoorClP
import Derived.Test.YtgfimkeopohjaaaDoorClL
import Derived.Test.YtgfimkeopohjaaaDoorCdQ
namespace Go.Proofs.YtgfimkeopohjaaaDoor
open Go Go.ChangeShapes Go.WideShapes Go.ChangeAt Go.RowKit

theorem meth_ok {ls : List Ins} {s : Int} (hs : s ≤ 8) (h : (heightP ls s).2.2 = 0) : MeE ls := by
  have hr := right_of h
  refine ⟨by have := hr.2.1; omega, fun x hx => ?_⟩
  obtain ⟨i, hi⟩ := List.mem_iff_getElem?.1 hx
  have hil := (List.getElem?_eq_some_iff.1 hi).1
  have ha := right_at hr hil hi
  have h1 := ha.ok
  have h2 := ha.skip
  have h3 := hr.2.1
  clear ha hr h hx hi
  unfold shapeP at h1
  by_cases e7 : x.op = 7
  · have h4 := h2 e7
    simp [e7] at h1
    exact ⟨by omega, by omega, by omega⟩
  · clear h2
    repeat' split at h1
    all_goals (simp at h1)
    all_goals (exact ⟨by omega, by omega, by omega⟩)
theorem mErr_all {s : Int} {ms : List (List Ins)} (h : mErr s ms = 0) : ∀ l ∈ ms, (heightP l s).2.2 = 0 := by
  induction ms with
  | nil => intro l hl; cases hl
  | cons a r ih =>
    unfold mErr at h
    split at h
    · rename_i h1
      intro l hl
      rcases List.mem_cons.1 hl with rfl | hl
      · exact h1
      · exact ih h l hl
    · exact absurd h (by assumption)
theorem check_from {l : List Face} : ∀ (r : List Face) (k : Nat), checkFrom l k r = 0 → ∀ (i : Nat) f, r[i]? = some f → baseOk (k + i) f.base = true := by
  intro r
  induction r with
  | nil => intro k _ i f hf; simp at hf
  | cons a r ih =>
    intro k h i f hf
    unfold checkFrom at h
    split at h
    · rename_i h1
      split at h
      · simp at h
      · cases i with
        | zero => simp at hf; subst hf; exact h1
        | succ i => rw [show k + (i + 1) = k + 1 + i by omega]; exact ih (k + 1) h i f (by simpa using hf)
    · simp at h
theorem faces_ok {l : List Face} (h : checkL l = 0) (hid : ∀ f ∈ l, f.id.length = 16) : l.length ≤ 16 ∧ ∀ f ∈ l, FaE f := by
  unfold checkL at h
  split at h
  · simp at h
  · rename_i h1
    refine ⟨by omega, fun f hf => ?_⟩
    obtain ⟨i, hi⟩ := List.mem_iff_getElem?.1 hf
    have hil := (List.getElem?_eq_some_iff.1 hi).1
    have hb := check_from l 0 h i f hi
    unfold baseOk at hb
    refine ⟨hid f hf, ?_⟩
    split at hb
    all_goals (simp at hb; omega)
theorem cls_ok {c : Cls} (h : chkC c = 0) (hi : c.id.length = 16) (hf : ∀ f ∈ c.faces, f.id.length = 16) : ClE c := by
  unfold chkC at h
  split at h
  · exact absurd h (by assumption)
  · rename_i h1
    split at h
    · simp at h
    · split at h
      · simp at h
      · obtain ⟨h2, h3⟩ := faces_ok (by omega) hf
        exact ⟨hi, by omega, h3, by omega, by omega, fun l hl => meth_ok (s := c.slots) (by omega) (mErr_all h l hl)⟩
theorem chk_from {l : List Cls} : ∀ (r : List Cls) (k : Nat), (chkFrom l k r).2 = 0 → ∀ c ∈ r, chkC c = 0 := by
  intro r
  induction r with
  | nil => intro k _ c hc; cases hc
  | cons a r ih =>
    intro k h c hc
    unfold chkFrom at h
    split at h
    · exact absurd h (by assumption)
    · rename_i h1
      split at h
      · simp at h
      · rcases List.mem_cons.1 hc with rfl | hc
        · omega
        · exact ih (k + 1) h c hc
/-- What the ids of a module are. -/
def IdsM (l : List Cls) : Prop := ∀ c ∈ l, c.id.length = 16 ∧ ∀ f ∈ c.faces, f.id.length = 16
theorem mod_ok {l : List Cls} (h : (chkM l).2 = 0) (hi : IdsM l) : 1 ≤ l.length ∧ l.length ≤ 8 ∧ ∀ c ∈ l, ClE c := by
  unfold chkM at h
  split at h
  · simp at h
  · exact ⟨by omega, by omega, fun c hc => cls_ok (chk_from l 0 h c hc) (hi c hc).1 (hi c hc).2⟩
theorem chk_fst {l : List Cls} (h : (chkM l).2 = 0) : chkM l = (0, 0) := by
  have H : ∀ (r : List Cls) (k : Nat), (chkFrom l k r).2 = 0 → chkFrom l k r = (0, 0) := by
    intro r
    induction r with
    | nil => intro k _; rfl
    | cons a r ih =>
      intro k h
      unfold chkFrom at h ⊢
      split at h
      · exact absurd h (by assumption)
      · rename_i h1
        rw [if_neg h1]
        split at h
        · simp at h
        · rename_i h2
          rw [if_neg h2]
          exact ih (k + 1) h
  unfold chkM at h ⊢
  split at h
  · simp at h
  · rename_i h1
    rw [if_neg h1]
    exact H l 0 h
/-- A module read out of bytes: with the rounds that there are. -/
def rnds (b : List Int) : Nat → Nat → Nat
  | 0, j => j
  | f + 1, j => if (j : Int) < b.getD 0 0 ∧ (decN b j).2 < b.length then rnds b f (j + 1) else j
def rawM (b : List Int) : List Cls := (decN b (rnds b 255 0)).1
def decM (b : List Int) : List Cls × Bool := if (chkM (rawM b)).2 = 0 ∧ formM (rawM b) = b then (rawM b, true) else ([], false)
theorem decM_inv {b : List Int} (h : (decM b).2 = true) : decM b = (rawM b, true) ∧ (chkM (rawM b)).2 = 0 ∧ formM (rawM b) = b := by
  unfold decM at h ⊢
  split at h
  · rename_i h1
    exact ⟨by rw [if_pos h1], h1⟩
  · simp at h
end Go.Proofs.YtgfimkeopohjaaaDoor

namespace Go.Proofs.YtgfimkeopohjaaaDoor
open Go Go.ChangeShapes Go.WideShapes Go.ChangeAt Go.RowKit

theorem dec_pre {l : List Cls} {b rest : List Int} (hl : l.length ≤ 255) (hc : ∀ c ∈ l, ClE c) (hb : b = formM l ++ rest) : b.getD 0 0 = l.length ∧ ∀ n, n ≤ l.length → (decN b n).1 = l.take n ∧ b.drop (decN b n).2 = (l.drop n).flatMap clF ++ rest := by
  have h0 : b.drop 0 = u8w l.length :: (l.flatMap clF ++ rest) := by rw [hb]; rfl
  obtain ⟨h1, h2⟩ := byte_read hl h0
  refine ⟨?_, ?_⟩
  · rw [hb]
    show u8w l.length = _
    exact u8w_in (by omega)
  · intro n
    induction n with
    | zero => intro _; exact ⟨rfl, h2⟩
    | succ n ih =>
      intro hn
      obtain ⟨h3, h4⟩ := ih (by omega)
      have hx : l[n]? = some l[n] := List.getElem?_eq_getElem (by omega)
      rw [flat_step hx, List.append_assoc] at h4
      obtain ⟨h5, h6⟩ := cls_read (hc _ (List.getElem_mem _)) h4
      unfold decN
      simp only
      exact ⟨by rw [h3, h5, List.take_add_one, hx]; rfl, h6⟩
theorem clF_pos (c : Cls) : 1 ≤ (clF c).length := by
  unfold clF
  simp
  omega
theorem rnds_form {l : List Cls} {b rest : List Int} (hl : l.length ≤ 255) (hc : ∀ c ∈ l, ClE c) (hb : b = formM l ++ rest) : rnds b 255 0 = l.length := by
  obtain ⟨h0, h1⟩ := dec_pre hl hc hb
  have H : ∀ f j, j ≤ l.length → l.length ≤ j + f → rnds b f j = l.length := by
    intro f
    induction f with
    | zero => intro j h2 h3; show j = _; omega
    | succ f ih =>
      intro j h2 h3
      unfold rnds
      by_cases hj : j = l.length
      · rw [if_neg (by rw [h0]; omega)]; exact hj
      · have hd := (h1 j h2).2
        have hx : l[j]? = some l[j] := List.getElem?_eq_getElem (by omega)
        rw [flat_step hx] at hd
        have hlen := congrArg List.length hd
        have := clF_pos l[j]
        simp only [List.length_drop, List.length_append] at hlen
        rw [if_pos ⟨by rw [h0]; omega, by omega⟩]
        exact ih (j + 1) (by omega) (by omega)
  exact H 255 0 (by omega) (by omega)
theorem raw_form {l : List Cls} {b rest : List Int} (hl : l.length ≤ 255) (hc : ∀ c ∈ l, ClE c) (hb : b = formM l ++ rest) : rawM b = l := by
  unfold rawM
  rw [rnds_form hl hc hb, ((dec_pre hl hc hb).2 l.length (Nat.le_refl _)).1, List.take_length]
theorem decM_form {l : List Cls} (h : (chkM l).2 = 0) (hi : IdsM l) : decM (formM l) = (l, true) := by
  obtain ⟨_, h1, h2⟩ := mod_ok h hi
  have hr := raw_form (b := formM l) (rest := []) (by omega) h2 (by rw [List.append_nil])
  unfold decM
  rw [hr, if_pos ⟨h, rfl⟩]
/-- Two forms, one ahead of the other: they are one. -/
theorem form_one {l m : List Cls} {rest : List Int} (h : (chkM l).2 = 0) (hi : IdsM l) (h' : (chkM m).2 = 0) (hi' : IdsM m) (he : formM l = formM m ++ rest) : rest = [] ∧ l = m := by
  obtain ⟨_, h1, h2⟩ := mod_ok h hi
  obtain ⟨_, h3, h4⟩ := mod_ok h' hi'
  have e1 := raw_form (b := formM l) (rest := []) (by omega) h2 (by rw [List.append_nil])
  have e2 := raw_form (b := formM l) (by omega) h4 he
  have e3 : l = m := e1.symm.trans e2
  subst e3
  exact ⟨by simpa using he, rfl⟩
/-- What is read has ids of sixteen bytes. -/
theorem ids_raw (b : List Int) (n : Nat) : IdsM (decN b n).1 := by
  induction n with
  | zero => intro c hc; cases hc
  | succ n ih =>
    intro c hc
    unfold decN at hc
    simp only [List.mem_append, List.mem_singleton] at hc
    rcases hc with hc | rfl
    · exact ih c hc
    · refine ⟨by simp [clsAt, guidC, gdC], fun f hf => ?_⟩
      simp only [clsAt, facTo, List.mem_map] at hf
      obtain ⟨j, _, rfl⟩ := hf
      simp [facAt, guidC, gdC]
theorem decM_cut {l : List Cls} {b c rest : List Int} (h : (chkM l).2 = 0) (hi : IdsM l) (hb : b = formM l) (hc : b = c ++ rest) (hr : rest ≠ []) : (decM c).2 = false := by
  cases hd : (decM c).2 with
  | false => rfl
  | true =>
    obtain ⟨_, h1, h2⟩ := decM_inv hd
    exact absurd (form_one h hi h1 (ids_raw c _) (by rw [← hb, hc, h2])).1 hr
theorem decM_more {l : List Cls} {b rest : List Int} (h : (chkM l).2 = 0) (hi : IdsM l) (hb : b = formM l ++ rest) (hr : rest ≠ []) : (decM b).2 = false := by
  cases hd : (decM b).2 with
  | false => rfl
  | true =>
    obtain ⟨_, h1, h2⟩ := decM_inv hd
    exact absurd (form_one h1 (ids_raw b _) h hi (by rw [h2, hb])).1 hr
theorem flat_le {α : Type} {f : α → List Int} {K : Nat} : ∀ {l : List α}, (∀ x ∈ l, (f x).length ≤ K) → (l.flatMap f).length ≤ l.length * K
  | [], _ => by simp
  | x :: r, h => by
    have h1 := h x (List.mem_cons_self ..)
    have h2 := flat_le (f := f) (K := K) (l := r) (fun y hy => h y (List.mem_cons_of_mem _ hy))
    rw [List.flatMap_cons, List.length_append, List.length_cons, Nat.succ_mul]
    omega
theorem cls_small {c : Cls} (h : chkC c = 0) (hi : c.id.length = 16) (hf : ∀ f ∈ c.faces, f.id.length = 16) : (clF c).length ≤ 2000 := by
  unfold chkC at h
  split at h
  · exact absurd h (by assumption)
  · rename_i h1
    split at h
    · simp at h
    · split at h
      · simp at h
      · rename_i h2
        obtain ⟨h3, _⟩ := faces_ok (by omega) hf
        have h4 := flat_le (f := faF) (K := 17) (l := c.faces) (fun f hm => by simp [faF, hf f hm])
        have h5 := flat_le (f := meF) (K := 193) (l := c.methods) (fun l hl => by
          have h6 := (right_of (mErr_all h l hl)).2.1
          have h7 := flat_le (f := inF) (K := 6) (l := l) (fun x _ => by simp [inF, lay4])
          simp only [meF, List.length_append, List.length_cons, List.length_nil]
          omega)
        simp only [clF, List.length_append, List.length_cons, List.length_nil]
        omega
theorem form_small {l : List Cls} (h : (chkM l).2 = 0) (hi : IdsM l) : (formM l).length ≤ 1000000 := by
  have h1 := mod_ok h hi
  unfold chkM at h
  split at h
  · simp at h
  · have h2 := flat_le (f := clF) (K := 2000) (l := l) (fun c hc => cls_small (chk_from l 0 h c hc) (hi c hc).1 (hi c hc).2)
    simp only [formM, List.length_append, List.length_cons, List.length_nil]
    omega
theorem raw_faces {b : List Int} (hb : Byt b) : ∀ n, ∀ c ∈ (decN b n).1, c.faces.length ≤ 255 := by
  intro n
  induction n with
  | zero => intro c hc; cases hc
  | succ n ih =>
    intro c hc
    unfold decN at hc
    simp only [List.mem_append, List.mem_singleton] at hc
    rcases hc with hc | rfl
    · exact ih c hc
    · have := getD_byt hb ((decN b n).2 + 16)
      show (facTo b _ _).length ≤ 255
      rw [facTo, List.length_map, List.length_range]
      omega
theorem rnds_stop {b : List Int} {f j : Nat} (h : ¬ ((j : Int) < b.getD 0 0 ∧ (decN b j).2 < b.length)) : rnds b f j = j := by
  cases f with
  | zero => rfl
  | succ f => rw [rnds, if_neg h]
end Go.Proofs.YtgfimkeopohjaaaDoor

namespace Go.Proofs.YtgfimkeopohjaaaDoor
open Go Go.ChangeShapes Go.WideShapes Go.ChangeAt Go.RowKit

section
variable {α : Type}
/-- n in a row. -/
def rdN (rd : List Int → Option (α × List Int)) : Nat → List Int → Option (List α × List Int)
  | 0, r => some ([], r)
  | n + 1, r => match rdN rd n r with
    | none => none
    | some (l, r1) => match rd r1 with
      | none => none
      | some (x, r2) => some (l ++ [x], r2)
/-- A list: how many, and they. -/
def rdL (most : Int) (rd : List Int → Option (α × List Int)) : List Int → Option (List α × List Int)
  | [] => none
  | n :: r => if most < n then none else rdN rd n.toNat r
theorem rdN_none {rd : List Int → Option (α × List Int)} {n : Nat} {r : List Int} (h : rdN rd n r = none) : ∀ k, rdN rd (n + k) r = none
  | 0 => h
  | k + 1 => by
    show rdN rd (n + k + 1) r = none
    unfold rdN
    rw [rdN_none h k]
theorem rdN_fwd {rd : List Int → Option (α × List Int)} {enc : α → List Int} {l : List α} (h : ∀ x ∈ l, ∀ rest, rd (enc x ++ rest) = some (x, rest)) (rest : List Int) : ∀ n, n ≤ l.length → rdN rd n (l.flatMap enc ++ rest) = some (l.take n, (l.drop n).flatMap enc ++ rest)
  | 0, _ => by simp [rdN]
  | n + 1, hn => by
    have ih := rdN_fwd h rest n (by omega)
    unfold rdN
    rw [ih]
    have hx : l[n]? = some (l[n]'(by omega)) := List.getElem?_eq_getElem (by omega)
    simp only [flat_step hx, List.append_assoc, h _ (List.mem_of_getElem? hx)]
    rw [List.take_add_one, hx]
    rfl
theorem byt_app {xs ys : List Int} (h : Byt (xs ++ ys)) : Byt ys := fun y hy => h y (List.mem_append.2 (.inr hy))
theorem rdN_bwd {rd : List Int → Option (α × List Int)} {enc : α → List Int} {Ok : α → Prop} (h : ∀ r x r', Byt r → rd r = some (x, r') → r = enc x ++ r' ∧ Ok x) {r : List Int} (hb : Byt r) : ∀ n l r', rdN rd n r = some (l, r') → r = l.flatMap enc ++ r' ∧ l.length = n ∧ ∀ x ∈ l, Ok x
  | 0, l, r', he => by
    simp only [rdN, Option.some.injEq, Prod.mk.injEq] at he
    obtain ⟨rfl, rfl⟩ := he
    exact ⟨rfl, rfl, fun x hx => by cases hx⟩
  | n + 1, l, r', he => by
    unfold rdN at he
    cases h1 : rdN rd n r with
    | none => rw [h1] at he; cases he
    | some p =>
      obtain ⟨l1, r1⟩ := p
      rw [h1] at he
      simp only at he
      obtain ⟨e1, e2, e3⟩ := rdN_bwd h hb n l1 r1 h1
      have hb1 : Byt r1 := byt_app (xs := l1.flatMap enc) (e1 ▸ hb)
      cases h2 : rd r1 with
      | none => rw [h2] at he; cases he
      | some p2 =>
        obtain ⟨x, r2⟩ := p2
        rw [h2] at he
        simp only [Option.some.injEq, Prod.mk.injEq] at he
        obtain ⟨rfl, rfl⟩ := he
        obtain ⟨e4, e5⟩ := h r1 x _ hb1 h2
        refine ⟨by rw [List.flatMap_append, List.append_assoc, e1, e4]; simp, by simp [e2], fun y hy => ?_⟩
        rcases List.mem_append.1 hy with hy | hy
        · exact e3 y hy
        · rw [List.mem_singleton.1 hy]; exact e5
theorem rdL_fwd {rd : List Int → Option (α × List Int)} {enc : α → List Int} {l : List α} {most : Int} (h : ∀ x ∈ l, ∀ rest, rd (enc x ++ rest) = some (x, rest)) (hm : (l.length : Int) ≤ most) (hl : l.length ≤ 255) (rest : List Int) :
    rdL most rd ([u8w l.length] ++ (l.flatMap enc ++ rest)) = some (l, rest) := by
  have e : u8w (l.length : Int) = l.length := u8w_in (by omega)
  show rdL most rd (u8w l.length :: (l.flatMap enc ++ rest)) = _
  rw [e]
  show (if most < (l.length : Int) then none else rdN rd (l.length : Int).toNat (l.flatMap enc ++ rest)) = _
  rw [if_neg (by omega), Int.toNat_natCast, rdN_fwd h rest l.length (Nat.le_refl _)]
  simp
theorem rdL_bwd {rd : List Int → Option (α × List Int)} {enc : α → List Int} {Ok : α → Prop} {most : Int} (h : ∀ r x r', Byt r → rd r = some (x, r') → r = enc x ++ r' ∧ Ok x) {r : List Int} (hb : Byt r) {l : List α} {r' : List Int} (he : rdL most rd r = some (l, r')) :
    r = [u8w l.length] ++ (l.flatMap enc ++ r') ∧ (l.length : Int) ≤ most ∧ l.length ≤ 255 ∧ ∀ x ∈ l, Ok x := by
  cases r with
  | nil => cases he
  | cons n r =>
    have he : (if most < n then none else rdN rd n.toNat r) = some (l, r') := he
    have hn := hb n (by simp)
    split at he
    · cases he
    · obtain ⟨e1, e2, e3⟩ := rdN_bwd h (fun x hx => hb x (List.mem_cons_of_mem _ hx)) _ _ _ he
      have e : u8w (l.length : Int) = l.length := u8w_in (by omega)
      refine ⟨?_, by omega, by omega, e3⟩
      rw [e, ← e1, show (l.length : Int) = n by omega]
      rfl
end
def rdI : List Int → Option (Ins × List Int)
  | op :: b :: a0 :: a1 :: a2 :: a3 :: r => some (⟨op, sgn (a0 + 256 * a1 + 65536 * a2 + 16777216 * a3), b⟩, r)
  | _ => none
def rdF (r : List Int) : Option (Face × List Int) := if r.length < 16 then none else
  match r.drop 16 with
  | [] => none
  | x :: r' => some (⟨r.take 16, x - 1⟩, r')
def rdM : List Int → Option (List Ins × List Int) := rdL 32 rdI
def rdC (r : List Int) : Option (Cls × List Int) := if r.length < 16 then none else
  match rdL 16 rdF (r.drop 16) with
  | none => none
  | some (_, []) => none
  | some (fs, s :: r2) => match rdL 8 rdM r2 with
    | none => none
    | some (ms, r3) => some (⟨r.take 16, fs, s, ms⟩, r3)
def rdMod : List Int → Option (List Cls × List Int) := rdL 8 rdC
/-- What the program's Decode finds. -/
def decR (b : List Int) : Option (List Cls) :=
  match rdMod b with
  | some (l, []) => if (chkM l).2 = 0 then some l else none
  | _ => none
theorem rdI_fwd {x : Ins} (hx : InE x) (rest : List Int) : rdI (inF x ++ rest) = some (x, rest) := by
  rw [inF_eq hx]
  obtain ⟨op, a, b⟩ := x
  have ha := hx.a
  simp only [List.cons_append, List.nil_append, rdI, Option.some.injEq, Prod.mk.injEq, and_true]
  have e : sgn (a % 4294967296 % 256 + 256 * (a % 4294967296 / 256 % 256) + 65536 * (a % 4294967296 / 256 / 256 % 256) + 16777216 * (a % 4294967296 / 256 / 256 / 256 % 256)) = a := by
    have e : a % 4294967296 % 256 + 256 * (a % 4294967296 / 256 % 256) + 65536 * (a % 4294967296 / 256 / 256 % 256) + 16777216 * (a % 4294967296 / 256 / 256 / 256 % 256) = a % 4294967296 := by omega
    rw [e]
    unfold sgn
    simp only at ha
    split <;> omega
  rw [e]
theorem rdI_bwd (r : List Int) (x : Ins) (r' : List Int) (hb : Byt r) (h : rdI r = some (x, r')) : r = inF x ++ r' ∧ InE x := by
  match r, h with
  | op :: b :: a0 :: a1 :: a2 :: a3 :: r, h =>
    simp only [rdI, Option.some.injEq, Prod.mk.injEq] at h
    obtain ⟨rfl, rfl⟩ := h
    have h0 := hb op (by simp)
    have h1 := hb b (by simp)
    have h2 := hb a0 (by simp)
    have h3 := hb a1 (by simp)
    have h4 := hb a2 (by simp)
    have h5 := hb a3 (by simp)
    have hi : InE ⟨op, sgn (a0 + 256 * a1 + 65536 * a2 + 16777216 * a3), b⟩ := ⟨h0, h1, by unfold sgn; simp only; split <;> omega⟩
    refine ⟨?_, hi⟩
    rw [inF_eq hi]
    obtain ⟨v, hv⟩ : ∃ v, v = a0 + 256 * a1 + 65536 * a2 + 16777216 * a3 := ⟨_, rfl⟩
    simp only [← hv]
    have e : sgn v % 4294967296 = v := by unfold sgn; split <;> omega
    rw [e]
    simp only [List.cons_append, List.nil_append, List.cons.injEq, true_and, and_true]
    refine ⟨by omega, by omega, by omega, by omega⟩
theorem rdF_fwd {f : Face} (hf : FaE f) (rest : List Int) : rdF (faF f ++ rest) = some (f, rest) := by
  rw [faF_eq hf]
  unfold rdF
  have h16 := hf.id
  rw [if_neg (by simp only [List.length_append]; omega), List.append_assoc, List.drop_left' h16, List.take_left' h16]
  obtain ⟨id, base⟩ := f
  simp
theorem rdF_bwd (r : List Int) (f : Face) (r' : List Int) (hb : Byt r) (h : rdF r = some (f, r')) : r = faF f ++ r' ∧ (f.id.length = 16 ∧ 0 ≤ f.base + 1 ∧ f.base + 1 ≤ 255) := by
  unfold rdF at h
  split at h
  · cases h
  · rename_i hl
    split at h
    · cases h
    · rename_i x r1 hd
      simp only [Option.some.injEq, Prod.mk.injEq] at h
      obtain ⟨rfl, rfl⟩ := h
      have hx := hb x (List.mem_of_mem_drop (i := 16) (by rw [hd]; simp))
      have hi : (r.take 16).length = 16 := by simp; omega
      have hf : FaE ⟨r.take 16, x - 1⟩ := ⟨hi, by show 0 ≤ x - 1 + 1 ∧ x - 1 + 1 ≤ 255; omega⟩
      refine ⟨?_, hi, hf.base⟩
      rw [faF_eq hf]
      show r = (r.take 16 ++ [x - 1 + 1]) ++ r1
      rw [show x - 1 + 1 = x by omega, List.append_assoc]
      have := List.take_append_drop 16 r
      rw [hd] at this
      exact this.symm
theorem rdM_fwd {l : List Ins} (hl : l.length ≤ 32) (hx : ∀ x ∈ l, InE x) (rest : List Int) : rdM (meF l ++ rest) = some (l, rest) := by
  unfold meF
  rw [List.append_assoc]
  exact rdL_fwd (fun x h rest => rdI_fwd (hx x h) rest) (by omega) (by omega) rest
/-- A method that was read. -/
structure MeR (l : List Ins) : Prop where
  len : l.length ≤ 32
  all : ∀ x ∈ l, InE x
theorem rdM_bwd (r : List Int) (l : List Ins) (r' : List Int) (hb : Byt r) (h : rdM r = some (l, r')) : r = meF l ++ r' ∧ MeR l := by
  obtain ⟨h1, h2, _, h4⟩ := rdL_bwd (enc := inF) rdI_bwd hb h
  exact ⟨by rw [h1]; unfold meF; simp, by omega, h4⟩
/-- A class that was read. -/
structure ClR (c : Cls) : Prop where
  id : c.id.length = 16
  nf : c.faces.length ≤ 16
  fs : ∀ f ∈ c.faces, f.id.length = 16 ∧ 0 ≤ f.base + 1 ∧ f.base + 1 ≤ 255
  sl : 0 ≤ c.slots ∧ c.slots ≤ 255
  nm : c.methods.length ≤ 8
  ms : ∀ l ∈ c.methods, MeR l
theorem u8w_two (a b : Int) (l : List Int) : [u8w a, u8w b] ++ l = [u8w a] ++ ([u8w b] ++ l) := rfl
theorem rdC_fwd {c : Cls} (h : ClR c) (rest : List Int) : rdC (clF c ++ rest) = some (c, rest) := by
  have h16 := h.id
  have e1 : clF c ++ rest = c.id ++ ([u8w c.faces.length] ++ (c.faces.flatMap faF ++ (u8w c.slots :: ([u8w c.methods.length] ++ (c.methods.flatMap meF ++ rest))))) := by
    unfold clF
    simp
  rw [e1]
  unfold rdC
  rw [if_neg (by simp only [List.length_append]; omega), List.drop_left' h16, List.take_left' h16,
    rdL_fwd (fun f hf rest => rdF_fwd ⟨(h.fs f hf).1, (h.fs f hf).2⟩ rest) (by have := h.nf; omega) (by have := h.nf; omega)]
  simp only
  rw [rdL_fwd (fun l hl rest => rdM_fwd (h.ms l hl).len (h.ms l hl).all rest) (by have := h.nm; omega) (by have := h.nm; omega), u8w_in h.sl]
theorem rdC_bwd (r : List Int) (c : Cls) (r' : List Int) (hb : Byt r) (h : rdC r = some (c, r')) : r = clF c ++ r' ∧ ClR c := by
  unfold rdC at h
  split at h
  · cases h
  · rename_i hl
    have hi : (r.take 16).length = 16 := by simp; omega
    have htd := List.take_append_drop 16 r
    have hbd : Byt (r.drop 16) := fun x hx => hb x (List.mem_of_mem_drop hx)
    split at h
    · cases h
    · cases h
    · rename_i fs s r2 h1
      obtain ⟨e1, e2, e3, e4⟩ := rdL_bwd (enc := faF) rdF_bwd hbd h1
      have hb2 : Byt (s :: r2) := byt_app (xs := fs.flatMap faF) (byt_app (xs := [u8w fs.length]) (e1 ▸ hbd))
      have hs := hb2 s (by simp)
      have hb3 : Byt r2 := fun x hx => hb2 x (List.mem_cons_of_mem _ hx)
      split at h
      · cases h
      · rename_i ms r3 h2
        cases h
        obtain ⟨e5, e6, e7, e8⟩ := rdL_bwd (enc := meF) rdM_bwd hb3 h2
        refine ⟨?_, hi, by show fs.length ≤ 16; omega, e4, hs, by show ms.length ≤ 8; omega, e8⟩
        rw [← htd, e1, e5]
        unfold clF
        simp only [u8w_in hs, List.append_assoc, List.cons_append, List.nil_append]
        rw [List.take_left' hi]
theorem rdMod_bwd {b : List Int} {l : List Cls} {r' : List Int} (hb : Byt b) (h : rdMod b = some (l, r')) : b = formM l ++ r' ∧ l.length ≤ 8 ∧ ∀ c ∈ l, ClR c := by
  obtain ⟨h1, h2, _, h4⟩ := rdL_bwd (enc := clF) rdC_bwd hb h
  exact ⟨by rw [h1]; unfold formM; simp, by omega, h4⟩
theorem ClR.ids {l : List Cls} (h : ∀ c ∈ l, ClR c) : IdsM l := fun c hc => ⟨(h c hc).id, fun f hf => ((h c hc).fs f hf).1⟩
theorem meth_r {ls : List Ins} {s : Int} (hs : s ≤ 8) (h : (heightP ls s).2.2 = 0) : MeR ls := by
  have hm := meth_ok hs h
  have hr := right_of h
  exact ⟨hr.2.1, hm.all⟩
theorem cls_r {c : Cls} (h : chkC c = 0) (hi : c.id.length = 16) (hf : ∀ f ∈ c.faces, f.id.length = 16) : ClR c := by
  have hE := cls_ok h hi hf
  unfold chkC at h
  split at h
  · exact absurd h (by assumption)
  · rename_i h1
    split at h
    · simp at h
    · split at h
      · simp at h
      · obtain ⟨h2, h3⟩ := faces_ok (by omega) hf
        exact ⟨hi, by omega, fun f hf => ⟨(h3 f hf).id, (h3 f hf).base⟩, by omega, by omega, fun l hl => meth_r (s := c.slots) (by omega) (mErr_all h l hl)⟩
theorem rdMod_fwd {l : List Cls} (h : (chkM l).2 = 0) (hi : IdsM l) : rdMod (formM l) = some (l, []) := by
  have hm := mod_ok h hi
  have hc : ∀ c ∈ l, ClR c := by
    have h' := h
    unfold chkM at h'
    split at h'
    · simp at h'
    · exact fun c hc => cls_r (chk_from l 0 h' c hc) (hi c hc).1 (hi c hc).2
  have := rdL_fwd (rd := rdC) (enc := clF) (most := 8) (fun c hcl rest => rdC_fwd (hc c hcl) rest) (by omega) (by omega) []
  unfold formM
  rw [List.append_nil] at this
  exact this
/-- What the reader finds is what the bytes are the form of. -/
theorem dec_r {b : List Int} (hb : Byt b) : decM b = match decR b with
    | some l => (l, true)
    | none => ([], false) := by
  unfold decR
  cases h : rdMod b with
  | some p =>
    obtain ⟨l, r'⟩ := p
    obtain ⟨e1, e2, e3⟩ := rdMod_bwd hb h
    cases r' with
    | nil =>
      rw [List.append_nil] at e1
      simp only
      by_cases hc : (chkM l).2 = 0
      · rw [if_pos hc, e1]
        exact decM_form hc (ClR.ids e3)
      · rw [if_neg hc]
        unfold decM
        rw [if_neg]
        rintro ⟨h1, h2⟩
        have := rdMod_fwd h1 (show IdsM (rawM b) from ids_raw b _)
        rw [h2, h] at this
        cases this
        exact hc h1
    | cons x r' =>
      simp only
      unfold decM
      rw [if_neg]
      rintro ⟨h1, h2⟩
      have := rdMod_fwd h1 (show IdsM (rawM b) from ids_raw b _)
      rw [h2, h] at this
      cases this
  | none =>
    simp only
    unfold decM
    rw [if_neg]
    rintro ⟨h1, h2⟩
    have := rdMod_fwd h1 (show IdsM (rawM b) from ids_raw b _)
    rw [h2, h] at this
    cases this
end Go.Proofs.YtgfimkeopohjaaaDoor
