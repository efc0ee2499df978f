/-
  Layer 15 plainly: what an instruction does; how a frame goes on up to where it stops; it ends.
-/
import Derived.Test.YtcoclaabainibaaDoorCdR
namespace Go.Proofs.YtcoclaabainibaaDoor
open Go Go.ChangeShapes Go.WideShapes Go.ChangeAt Go.RowKit

abbrev w64 (x : Int) : Int := IntKind.i64.wrap x
abbrev top (l : List Int) : Int := l.getLastD 0
/-- Where a method is: the place of the next instruction, the stack, the object's value. -/
structure Mo where
  p : Nat
  st : List Int
  v : Int
def stp (arg : Int) (x : Ins) (m : Mo) : Mo :=
  if x.op = 1 then ⟨m.p + 1, m.st ++ [x.a], m.v⟩
  else if x.op = 2 then ⟨m.p + 1, m.st ++ [arg], m.v⟩
  else if x.op = 3 then ⟨m.p + 1, m.st ++ [m.v], m.v⟩
  else if x.op = 4 then ⟨m.p + 1, m.st.dropLast, top m.st⟩
  else if x.op = 5 then ⟨m.p + 1, m.st.dropLast.dropLast ++ [w64 (top m.st + top m.st.dropLast)], m.v⟩
  else if x.op = 6 then ⟨m.p + 1, m.st.dropLast ++ [w64 (-(top m.st))], m.v⟩
  else if x.op = 7 then ⟨m.p + 1 + (if top m.st = 0 then x.a.toNat else 0), m.st.dropLast, m.v⟩
  else ⟨m.p + 1, m.st, m.v⟩
theorem stp_lt (arg : Int) (x : Ins) (m : Mo) : m.p < (stp arg x m).p := by
  unfold stp
  repeat' split
  all_goals simp only
  all_goals omega
/-- It goes on, up to where it needs somebody else. -/
def rest (ls : List Ins) (arg : Int) (m : Mo) : Mo :=
  if h : m.p < ls.length then (if 8 ≤ (ls[m.p]'h).op then m else rest ls arg (stp arg (ls[m.p]'h) m)) else m
termination_by ls.length - m.p
decreasing_by have := stp_lt arg ls[m.p] m; omega
theorem rest_stop {ls : List Ins} {arg : Int} {m : Mo} {x : Ins} (hx : ls[m.p]? = some x) (h8 : 8 ≤ x.op) : rest ls arg m = m := by
  obtain ⟨h, rfl⟩ := List.getElem?_eq_some_iff.1 hx
  rw [rest, dif_pos h, if_pos h8]
theorem rest_go {ls : List Ins} {arg : Int} {m : Mo} {x : Ins} (hx : ls[m.p]? = some x) (h8 : x.op < 8) : rest ls arg m = rest ls arg (stp arg x m) := by
  obtain ⟨h, rfl⟩ := List.getElem?_eq_some_iff.1 hx
  rw [rest, dif_pos h, if_neg (by omega)]
theorem rest_le (ls : List Ins) (arg : Int) : ∀ (k : Nat) (m : Mo), ls.length - m.p ≤ k → m.p ≤ (rest ls arg m).p
  | 0, m, hk => by rw [rest, dif_neg (by omega)]; exact Nat.le_refl _
  | k + 1, m, hk => by
    rw [rest]
    split
    · split
      · exact Nat.le_refl _
      · rename_i h _
        have h1 := stp_lt arg ls[m.p] m
        exact Nat.le_trans (Nat.le_of_lt h1) (rest_le ls arg k _ (by omega))
    · exact Nat.le_refl _
/-- A frame. -/
structure Fs where
  code : List Ins
  arg : Int
  p : Nat
  st : List Int
  calls : Bool
  over : Bool
/-- What it stops with. -/
structure Ev where
  kind : Int
  slot : Int
  meth : Int
  n : Int
  code : Int
deriving DecidableEq
def laid (f : Fs) (result : Int) : List Int := if f.calls then f.st ++ [result] else f.st
def stopE (x : Ins) (m : Mo) : Ev :=
  if x.op = 11 then ⟨1, 0, 0, top m.st, 0⟩ else if x.op = 9 then ⟨3, x.a, 0, 0, 0⟩ else if x.op = 10 then ⟨4, x.a, 0, 0, 0⟩ else ⟨2, x.a, x.b, top m.st, 0⟩
def stopF (f : Fs) (x : Ins) (m : Mo) : Fs :=
  if x.op = 11 then ⟨f.code, f.arg, m.p, m.st.dropLast, false, true⟩ else if x.op = 9 ∨ x.op = 10 then ⟨f.code, f.arg, m.p + 1, m.st, false, false⟩ else ⟨f.code, f.arg, m.p + 1, m.st.dropLast, true, false⟩
def goM (f : Fs) (result value : Int) : Mo := rest f.code f.arg ⟨f.p, laid f result, value⟩
def goX (f : Fs) (result value : Int) : Ins := f.code.getD (goM f result value).p ⟨11, 0, 0⟩
def nxE (f : Fs) (result value : Int) : Ev := if f.over then ⟨5, 0, 0, 0, 12⟩ else stopE (goX f result value) (goM f result value)
def nxV (f : Fs) (result value : Int) : Int := if f.over then value else (goM f result value).v
def nxF (f : Fs) (result value : Int) : Fs := if f.over then f else stopF f (goX f result value) (goM f result value)
/-- The place and the stack's height fit the heights of a right row. -/
structure AtH (ls : List Ins) (h : List Int) (p : Nat) (n : Nat) : Prop where
  lt : p < ls.length
  eq : h.getD p 0 = (n : Int)
section
variable {ls : List Ins} {h : List Int} {m : Mo} {arg : Int} {x : Ins}
theorem AtH.at_ (hr : RightC ls 8 h) {p n : Nat} (ha : AtH ls h p n) (hx : ls[p]? = some x) : AtC ls 8 h p x := right_at hr ha.lt hx
/-- The next place, and a place that is skipped to. -/
theorem AtH.next (hr : RightC ls 8 h) {p n : Nat} (ha : AtH ls h p n) (hx : ls[p]? = some x) (h11 : x.op ≠ 11) : p + 1 < ls.length ∧ h.getD (p + 1) 0 = leftP x 8 (n : Int) := by
  have h1 := ha.at_ hr hx
  have h2 := h1.on h11
  have h3 := (right_at hr h2 (List.getElem?_eq_getElem h2)).from_ p (by omega) x hx (goes_of h11 (.inl rfl))
  rw [ha.eq] at h3
  exact ⟨h2, h3⟩
theorem AtH.skip (hr : RightC ls 8 h) {p n : Nat} (ha : AtH ls h p n) (hx : ls[p]? = some x) (h7 : x.op = 7) : 1 ≤ x.a ∧ x.a ≤ 30 ∧ p + 1 + x.a.toNat < ls.length ∧ h.getD (p + 1 + x.a.toNat) 0 = leftP x 8 (n : Int) := by
  have h1 := ha.at_ hr hx
  have h2 := h1.skip h7
  have h0 := h1.ok
  have hl := hr.2.1
  have ha1 : 1 ≤ x.a := by
    unfold shapeP at h0
    rw [if_neg (by omega), if_neg (by omega), if_neg (by omega), if_neg (by omega), if_neg (by omega), if_pos h7] at h0
    simp only [Bool.and_eq_true, decide_eq_true_eq] at h0
    exact h0.1
  have h4 : p + 1 + x.a.toNat < ls.length := by omega
  have h3 := (right_at hr h4 (List.getElem?_eq_getElem h4)).from_ p (by omega) x hx (goes_of (by omega) (.inr ⟨h7, by omega⟩))
  rw [ha.eq] at h3
  exact ⟨ha1, by omega, h4, h3⟩
theorem AtH.op (hr : RightC ls 8 h) {p n : Nat} (ha : AtH ls h p n) (hx : ls[p]? = some x) : 1 ≤ x.op ∧ x.op ≤ 11 ∧ (x.op = 4 ∨ x.op = 6 ∨ x.op = 7 ∨ x.op = 8 → 1 ≤ n) ∧ (x.op = 5 → 2 ≤ n) ∧ (x.op = 11 → n = 1) ∧ n ≤ 8 := by
  have h1 := ha.at_ hr hx
  have h0 := h1.ok
  have hlo := h1.lo
  have he := ha.eq
  have hle : h.getD p 0 ≤ 8 := by
    by_cases hp : p = 0
    · rw [h1.first hp]; decide
    · obtain ⟨k, hk, y, hy, hg⟩ := h1.some_ hp
      rw [h1.from_ k hk y hy hg]
      exact (right_at hr (by have := ha.lt; omega) hy).le
  have hret := h1.ret
  unfold shapeP at h0 hlo
  repeat' split at h0
  all_goals simp_all
  all_goals omega
theorem AtH.left (hr : RightC ls 8 h) {p n : Nat} (ha : AtH ls h p n) (hx : ls[p]? = some x) (h11 : x.op ≠ 11) (v : Int) : leftP x 8 v = v + (if x.op = 1 ∨ x.op = 2 ∨ x.op = 3 then 1 else if x.op = 4 ∨ x.op = 5 ∨ x.op = 7 then -1 else 0) := (left_op (ha.at_ hr hx).ok h11).2.2
/-- An instruction that needs nobody else keeps it. -/
theorem AtH.stp (hr : RightC ls 8 h) (ha : AtH ls h m.p m.st.length) (hx : ls[m.p]? = some x) (h8 : x.op < 8) : AtH ls h (stp arg x m).p (stp arg x m).st.length := by
  obtain ⟨o1, o2, o3, o4, o5, o6⟩ := ha.op hr hx
  obtain ⟨n1, n2⟩ := ha.next hr hx (by omega)
  rw [ha.left hr hx (by omega)] at n2
  unfold Go.Proofs.YtcoclaabainibaaDoor.stp
  by_cases c1 : x.op = 1
  · rw [if_pos c1]; exact ⟨n1, by rw [n2, if_pos (by omega)]; simp⟩
  rw [if_neg c1]
  by_cases c2 : x.op = 2
  · rw [if_pos c2]; exact ⟨n1, by rw [n2, if_pos (by omega)]; simp⟩
  rw [if_neg c2]
  by_cases c3 : x.op = 3
  · rw [if_pos c3]; exact ⟨n1, by rw [n2, if_pos (by omega)]; simp⟩
  rw [if_neg c3]
  by_cases c4 : x.op = 4
  · rw [if_pos c4]; exact ⟨n1, by rw [n2, if_neg (by omega), if_pos (by omega)]; have := o3 (by omega); simp only [List.length_dropLast]; omega⟩
  rw [if_neg c4]
  by_cases c5 : x.op = 5
  · rw [if_pos c5]; exact ⟨n1, by rw [n2, if_neg (by omega), if_pos (by omega)]; have := o4 (by omega); simp only [List.length_append, List.length_dropLast, List.length_singleton]; omega⟩
  rw [if_neg c5]
  by_cases c6 : x.op = 6
  · rw [if_pos c6]; exact ⟨n1, by rw [n2, if_neg (by omega), if_neg (by omega)]; have := o3 (by omega); simp only [List.length_append, List.length_dropLast, List.length_singleton]; omega⟩
  rw [if_neg c6]
  have c7 : x.op = 7 := by omega
  rw [if_pos c7]
  by_cases c0 : top m.st = 0
  · obtain ⟨_, _, k1, k2⟩ := ha.skip hr hx c7
    rw [ha.left hr hx (by omega), if_neg (by omega), if_pos (by omega)] at k2
    rw [if_pos c0]
    exact ⟨k1, by rw [k2]; have := o3 (by omega); simp only [List.length_dropLast]; omega⟩
  · rw [if_neg c0]
    exact ⟨n1, by simp only [Nat.add_zero]; rw [n2, if_neg (by omega), if_pos (by omega)]; have := o3 (by omega); simp only [List.length_dropLast]; omega⟩
theorem AtH.rest (hr : RightC ls 8 h) : ∀ (k : Nat) (m : Mo), ls.length - m.p ≤ k → AtH ls h m.p m.st.length → AtH ls h (rest ls arg m).p (rest ls arg m).st.length ∧ ∃ x, ls[(Go.Proofs.YtcoclaabainibaaDoor.rest ls arg m).p]? = some x ∧ 8 ≤ x.op
  | 0, m, hk, ha => by have := ha.lt; omega
  | k + 1, m, hk, ha => by
    have hx := List.getElem?_eq_getElem ha.lt
    by_cases h8 : 8 ≤ (ls[m.p]'ha.lt).op
    · rw [rest_stop hx h8]
      exact ⟨ha, _, hx, h8⟩
    · rw [rest_go hx (by omega)]
      have := stp_lt arg (ls[m.p]'ha.lt) m
      exact AtH.rest hr k _ (by omega) (ha.stp hr hx (by omega))
end
/-- A frame that New made, and that has gone on as it likes. -/
structure FsR (f : Fs) : Prop where
  right : ∃ h, RightC f.code 8 h ∧ (f.over = false → AtH f.code h f.p (f.st.length + if f.calls then 1 else 0))
  small : f.p < 32
  done : f.over = true → f.st = [] ∧ f.calls = false
  deep : f.st.length ≤ 8
theorem FsR.laid {f : Fs} {result : Int} : (laid f result).length = f.st.length + if f.calls then 1 else 0 := by
  unfold Go.Proofs.YtcoclaabainibaaDoor.laid
  split <;> simp
/-- Where it stops. -/
theorem FsR.stop {f : Fs} (hf : FsR f) (ho : f.over = false) (result value : Int) : ∃ h, RightC f.code 8 h ∧ AtH f.code h (goM f result value).p (goM f result value).st.length ∧ f.code[(goM f result value).p]? = some (goX f result value) ∧ 8 ≤ (goX f result value).op ∧ f.p ≤ (goM f result value).p := by
  obtain ⟨h, hr, ha⟩ := hf.right
  have ha := ha ho
  rw [← FsR.laid (result := result)] at ha
  obtain ⟨h1, x, hx, h8⟩ := AtH.rest (arg := f.arg) hr f.code.length ⟨f.p, Go.Proofs.YtcoclaabainibaaDoor.laid f result, value⟩ (Nat.sub_le _ _) ha
  have hg : goX f result value = x := by
    unfold goX goM
    rw [List.getD_eq_getElem?_getD, hx]; rfl
  exact ⟨h, hr, h1, by rw [hg]; exact hx, by rw [hg]; exact h8, rest_le f.code f.arg f.code.length ⟨f.p, Go.Proofs.YtcoclaabainibaaDoor.laid f result, value⟩ (Nat.sub_le _ _)⟩
theorem FsR.next {f : Fs} (hf : FsR f) (result value : Int) : FsR (nxF f result value) := by
  unfold nxF
  by_cases ho : f.over = true
  · rw [if_pos ho]; exact hf
  · rw [if_neg ho]
    obtain ⟨h, hr, ha, hx, h8, _⟩ := hf.stop (by simpa using ho) result value
    obtain ⟨o1, o2, o3, o4, o5, o6⟩ := ha.op hr hx
    have hl := hr.2.1
    have hlt := ha.lt
    generalize goM f result value = m at *
    generalize goX f result value = x at *
    unfold stopF
    by_cases c11 : x.op = 11
    · rw [if_pos c11]
      have h1 := o5 c11
      exact ⟨⟨h, hr, fun h => by cases h⟩, by simp only; omega, fun _ => ⟨by
        match hm : m.st, h1 with
        | [y], _ => rfl, rfl⟩, by simp only [List.length_dropLast]; omega⟩
    · rw [if_neg c11]
      obtain ⟨n1, n2⟩ := ha.next hr hx c11
      rw [ha.left hr hx c11] at n2
      by_cases c9 : x.op = 9 ∨ x.op = 10
      · rw [if_pos c9]
        exact ⟨⟨h, hr, fun _ => ⟨n1, by simp only; rw [n2, if_neg (by omega), if_neg (by omega)]; simp⟩⟩, by simp only; omega, fun h => (by cases h), by simp only; omega⟩
      · rw [if_neg c9]
        have h1 := o3 (by omega)
        exact ⟨⟨h, hr, fun _ => ⟨n1, by simp only; rw [n2, if_neg (by omega), if_neg (by omega), List.length_dropLast]; simp; omega⟩⟩, by simp only; omega, fun h => (by cases h), by simp only [List.length_dropLast]; omega⟩
/-- It goes ahead with each stop that isn't its last. -/
theorem nx_ahead {f : Fs} (hf : FsR f) (ho : f.over = false) (result value : Int) : ((nxE f result value).kind = 1 ∧ (nxF f result value).over = true) ∨ ((nxE f result value).kind ≠ 1 ∧ (nxF f result value).over = false ∧ f.p + 1 ≤ (nxF f result value).p) := by
  obtain ⟨h, hr, ha, hx, h8, hle⟩ := hf.stop ho result value
  unfold nxE nxF
  rw [ho]
  simp only [Bool.false_eq_true, if_false]
  generalize goM f result value = m at *
  generalize goX f result value = x at *
  unfold stopE stopF
  by_cases c11 : x.op = 11
  · rw [if_pos c11, if_pos c11]; exact .inl ⟨rfl, rfl⟩
  · rw [if_neg c11, if_neg c11]
    refine .inr ⟨?_, ?_, ?_⟩
    · split
      · simp
      · split <;> simp
    · split <;> rfl
    · split <;> (simp only; omega)
theorem nx_code (f : Fs) (result value : Int) : (nxF f result value).code = f.code ∧ (nxF f result value).arg = f.arg := by
  unfold nxF stopF
  repeat' split
  all_goals exact ⟨rfl, rfl⟩
end Go.Proofs.YtcoclaabainibaaDoor
