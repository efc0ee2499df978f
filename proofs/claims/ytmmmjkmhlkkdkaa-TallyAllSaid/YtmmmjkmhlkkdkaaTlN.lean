/-
  Acts on a tally that came in; the laws' example; a count up or down, whichever way it goes.
-/
import Derived.Test.YtmmmjkmhlkkdkaaTlA
namespace Go.Proofs.Ytmmmjkmhlkkdkaa
open Go.ChangeShapes Go.WideShapes Go.ChangeAt Go.RowKit Go.Maps

theorem below_on {w0 w w1 : World} {S : Nat → Prop} (h : Below w0.heap.size w0 w) (hf : Fr S w w1) (hS : ∀ k, S k → w0.heap.size ≤ k) : Below w0.heap.size w0 w1 :=
  h.trans (hf.below h.size hS)
/-- An act. -/
structure Act3 where
  down : Bool
  key : Int
  n : Int
def I64 (x : Int) : Prop := -9223372036854775808 ≤ x ∧ x ≤ 9223372036854775807
def U32 (x : Int) : Prop := 0 ≤ x ∧ x ≤ 4294967295
/-- A row of acts that came in. -/
structure Acts (w : World) (B : Nat) (ad : Option Addr) (l : List Act3) : Prop where
  some : 0 < l.length → ∃ a, ad = some a ∧ a.block < B
  at0 : ∀ (i : Nat) (a : Addr) (x : Act3), ad = Option.some a → l[i]? = Option.some x → w.cell? (a.add (i * 3)) = Option.some (.bool x.down)
  at1 : ∀ (i : Nat) (a : Addr) (x : Act3), ad = Option.some a → l[i]? = Option.some x → w.cell? ⟨(a.add (i * 3)).block, (a.add (i * 3)).off + 1, none⟩ = Option.some (.int .u64 x.key)
  at2 : ∀ (i : Nat) (a : Addr) (x : Act3), ad = Option.some a → l[i]? = Option.some x → w.cell? ⟨(a.add (i * 3)).block, (a.add (i * 3)).off + 2, none⟩ = Option.some (.int .u32 x.n)
  ok : ∀ x ∈ l, U64 x.key ∧ U32 x.n
theorem add_block (a : Addr) (k : Nat) : (a.add k).block = a.block := by unfold Addr.add; split <;> rfl
theorem Acts.below {w w' : World} {B : Nat} {ad : Option Addr} {l : List Act3} (h : Acts w B ad l) (hB : Below B w w') : Acts w' B ad l := by
  have hlt : ∀ (i : Nat) (a : Addr) (x : Act3), ad = Option.some a → l[i]? = Option.some x → a.block < B := fun i a x ha hx => by
    obtain ⟨a', h1, h2⟩ := h.some (by have := (List.getElem?_eq_some_iff.1 hx).1; omega)
    rw [ha] at h1; cases h1; exact h2
  refine ⟨h.some, fun i a x ha hx => ?_, fun i a x ha hx => ?_, fun i a x ha hx => ?_, h.ok⟩
  · exact (hB.cell (p := a.add (i * 3)) (by rw [add_block]; exact hlt i a x ha hx)).trans (h.at0 i a x ha hx)
  · exact (hB.cell (p := ⟨(a.add (i * 3)).block, (a.add (i * 3)).off + 1, none⟩) (by rw [add_block]; exact hlt i a x ha hx)).trans (h.at1 i a x ha hx)
  · exact (hB.cell (p := ⟨(a.add (i * 3)).block, (a.add (i * 3)).off + 2, none⟩) (by rw [add_block]; exact hlt i a x ha hx)).trans (h.at2 i a x ha hx)

set_option maxHeartbeats 400000 in
theorem awake_any (w : World) : Calls Try.prog 14 #[] w fun e w' => e = .returned (.bool true) ∧ Below w.heap.size w w' := by
  go_enter Try.func14, Try.ntmps14
  go_wp2_with fail
  refine (New_tl 5 w (by decide) (by decide)).mono ?_
  rintro e w1 ⟨rfl, t1, b1⟩
  have q1 := Up_yes w1 _ _ 0 5 7 4 [] t1 (by decide) (by decide) (by decide) (by decide) (by decide)
  rw [show getM [] 7 + 4 = 4 from rfl] at q1
  have B1 := hid b1
  clear b1
  go_wp2_with fail
  refine q1.mono ?_
  rintro e w2 ⟨rfl, t2, f2⟩
  have hg : getM (setM [] 7 4) 7 = 4 := rfl
  have q2 := Up_no w2 _ _ _ 5 7 2 _ t2 (by decide) (by decide) (by decide) (by rw [hg]; decide)
  have q3 := Down_no w2 _ _ _ 5 7 5 _ t2 (by decide) (by decide) (by rw [hg]; decide)
  rw [hg] at q2 q3
  have F2 := hid f2
  clear f2 t2 t1 q1 hg
  go_wp2_with fail
  refine q2.mono ?_
  rintro e w' ⟨rfl, rfl⟩
  clear q2
  go_wp2_with fail
  refine q3.mono ?_
  rintro e w' ⟨rfl, rfl⟩
  clear q3
  go_wp2
  go_ret
  exact ⟨rfl, below_on B1.out F2.out (fun k h => by omega)⟩

/-- A count up or down at a list. -/
def actM (most : Int) (l : TM) (a : Act3) : TM := if a.down then (if a.n ≤ getM l a.key then setM l a.key (getM l a.key - a.n) else l) else (if getM l a.key + a.n ≤ most then setM l a.key (getM l a.key + a.n) else l)
def okM (most : Int) (l : TM) (a : Act3) : Bool := if a.down then decide (a.n ≤ getM l a.key) else decide (getM l a.key + a.n ≤ most)
def erM (most : Int) (l : TM) (a : Act3) : Int := if okM most l a then 0 else 4
theorem actM_get (most : Int) (l : TM) (a : Act3) : getM (actM most l a) a.key = if okM most l a then (if a.down then getM l a.key - a.n else getM l a.key + a.n) else getM l a.key := by
  unfold actM okM
  cases a.down <;> simp only [Bool.false_eq_true, if_true, if_false, decide_eq_true_eq] <;> split <;> simp [get_set_same]
theorem actM_no {most : Int} {l : TM} {a : Act3} (h : okM most l a = false) : actM most l a = l := by
  unfold actM okM at *
  cases hd : a.down <;> simp_all <;> omega
def UpPost (p b n : Nat) (most : Int) (l : TM) (a : Act3) (w : World) (e : Ending) (w' : World) : Prop :=
  e = .returned (.tuple #[.int .u32 (getM (actM most l a) a.key), .int .i64 (erM most l a)]) ∧ TlW w' p b (n + 1) most (actM most l a) ∧ Fr (fun j => j = b) w w'
theorem Up_act (w : World) (p b n : Nat) (most : Int) (l : TM) (a : Act3) (h : TlW w p b n most l) (hn : n < 9223372036854775807) (hk : U64 a.key) (hx : U32 a.n) (hd : a.down = false) :
    Calls Try.prog 18 #[.pointer (some ⟨p, 0, none⟩), .int .u64 a.key, .int .u32 a.n] w (UpPost p b n most l a w) := by
  by_cases hc : getM l a.key + a.n ≤ most
  · have e1 : actM most l a = setM l a.key (getM l a.key + a.n) := by unfold actM; simp [hd, hc]
    have e2 : erM most l a = 0 := by unfold erM okM; simp [hd, hc]
    unfold UpPost
    rw [e1, e2, get_set_same]
    exact Up_yes w p b n most a.key a.n l h hn hk.1 hk.2 hx.1 hc
  · have e1 : actM most l a = l := by unfold actM; simp [hd, hc]
    have e2 : erM most l a = 4 := by unfold erM okM; simp [hd, hc]
    unfold UpPost
    rw [e1, e2]
    refine (Up_no w p b n most a.key a.n l h hk.1 hk.2 hx.2 (by omega)).mono ?_
    rintro e w' ⟨rfl, rfl⟩
    exact ⟨rfl, h.mono (by omega), Fr.refl _ _⟩
theorem Down_act (w : World) (p b n : Nat) (most : Int) (l : TM) (a : Act3) (h : TlW w p b n most l) (hn : n < 9223372036854775807) (hk : U64 a.key) (hx : U32 a.n) (hd : a.down = true) :
    Calls Try.prog 17 #[.pointer (some ⟨p, 0, none⟩), .int .u64 a.key, .int .u32 a.n] w (UpPost p b n most l a w) := by
  by_cases hc : a.n ≤ getM l a.key
  · have e1 : actM most l a = setM l a.key (getM l a.key - a.n) := by unfold actM; simp [hd, hc]
    have e2 : erM most l a = 0 := by unfold erM okM; simp [hd, hc]
    unfold UpPost
    rw [e1, e2, get_set_same]
    exact Down_yes w p b n most a.key a.n l h hn hk.1 hk.2 hx.1 hc
  · have e1 : actM most l a = l := by unfold actM; simp [hd, hc]
    have e2 : erM most l a = 4 := by unfold erM okM; simp [hd, hc]
    unfold UpPost
    rw [e1, e2]
    refine (Down_no w p b n most a.key a.n l h hk.1 hk.2 (by omega)).mono ?_
    rintro e w' ⟨rfl, rfl⟩
    exact ⟨rfl, h.mono (by omega), Fr.refl _ _⟩
end Go.Proofs.Ytmmmjkmhlkkdkaa
