/-
  slices.SortFunc at the tally's entries, by their keys: the row holds the one list by rising keys.
-/
import Derived.Test.YtmmmjkmhlkkdkaaLay1
import Derived.Test.YtmmmjkmhlkkdkaaKRow
import Derived.Test.YtmmmjkmhlkkdkaaTlA
namespace Go.Proofs.Ytmmmjkmhlkkdkaa
open Go Go.Shelf Go.RowKit Go.Lib Go.Sort

/-- An entry's cells. -/
def encE (x : Int × Int) : List Value := [.int .u64 x.1, .int .u32 x.2]
theorem encE_len (x : Int × Int) : (encE x).length = 2 := rfl
def cmp3 (a b : Int) : Int := if a < b then -1 else if b < a then 1 else 0
def cfE (x y : Int × Int) : Int := cmp3 x.1 y.1
theorem cmp3_lt (a b : Int) : cmp3 a b < 0 ↔ a < b := by
  unfold cmp3
  split
  · omega
  · split <;> omega
theorem ltE (x y : Int × Int) : ltOf cfE x y = decide (x.1 < y.1) := by
  show decide (cmp3 x.1 y.1 < 0) = _
  rw [Bool.eq_iff_iff]
  simp only [decide_eq_true_eq]
  exact cmp3_lt _ _
theorem swoE : SWO (ltOf cfE) where
  irrefl x := by rw [ltE]; simp
  trans x y z h1 h2 := by
    rw [ltE] at *
    simp only [decide_eq_true_eq] at *
    omega
  ntrans x y z h1 h2 := by
    rw [ltE] at *
    simp only [decide_eq_false_iff_not] at *
    omega
theorem isNaN_any (a : Int) (w : World) : Calls Try.prog 54 #[.int .u64 a] w fun e w' => e = .returned (.bool false) ∧ w = w' := by
  go_enter Try.func54, Try.ntmps54
  go_wp2
  go_ret
  exact ⟨rfl, rfl⟩
theorem CompareU_any (a b : Int) (w : World) : Calls Try.prog 41 #[.int .u64 a, .int .u64 b] w fun e w' => e = .returned (.int .i64 (cmp3 a b)) ∧ w = w' := by
  have hn := isNaN_any
  have HN := hid hn
  clear hn
  by_cases h1 : a < b
  · have hd : decide (a < b) = true := by simpa using h1
    have he : cmp3 a b = -1 := by simp [cmp3, h1]
    rw [he]
    clear he h1
    go_enter Try.func41, Try.ntmps41
    go_wp2_with (first | (go_at_call 54; refine (HN.out _ _).mono ?_; rintro e w' ⟨rfl, rfl⟩))
    go_ret
    exact ⟨rfl, rfl⟩
  · have hd : decide (a < b) = false := by simpa using h1
    by_cases h2 : b < a
    · have hd2 : decide (b < a) = true := by simpa using h2
      have he : cmp3 a b = 1 := by simp [cmp3, h1, h2]
      rw [he]
      clear he h1 h2
      go_enter Try.func41, Try.ntmps41
      go_wp2_with (first | (go_at_call 54; refine (HN.out _ _).mono ?_; rintro e w' ⟨rfl, rfl⟩))
      go_ret
      exact ⟨rfl, rfl⟩
    · have hd2 : decide (b < a) = false := by simpa using h2
      have he : cmp3 a b = 0 := by simp [cmp3, h1, h2]
      rw [he]
      clear he h1 h2
      go_enter Try.func41, Try.ntmps41
      go_wp2_with (first | (go_at_call 54; refine (HN.out _ _).mono ?_; rintro e w' ⟨rfl, rfl⟩))
      go_ret
      exact ⟨rfl, rfl⟩
theorem closure_any (x y : Int × Int) (w : World) : Calls Try.prog 40 #[.agg #[.int .u64 x.1, .int .u32 x.2], .agg #[.int .u64 y.1, .int .u32 y.2]] w fun e w' => e = .returned (.int .i64 (cfE x y)) ∧ w' = (w.alloc (.cells #[.int .u64 x.1, .int .u32 x.2] 74)).alloc (.cells #[.int .u64 y.1, .int .u32 y.2] 74) := by
  have hc := hid (fun W => CompareU_any x.1 y.1 W)
  unfold cfE
  generalize cmp3 x.1 y.1 = r at hc ⊢
  go_enter Try.func40, Try.ntmps40
  go_wp2_with (go_at_call 41; refine (hc.out _).mono ?_; rintro e w' ⟨rfl, rfl⟩)
  go_ret
  exact ⟨rfl, rfl⟩
theorem cmpLaysE (blk off size : Nat) (w : World) : CmpLays Try.prog 40 #[] encE 2 cfE blk off size w :=
  fun _ _ _ _ x y => (closure_any x y _).mono fun _ _ ⟨he, hw⟩ => by
    subst hw
    exact ⟨he, 0, _, by rw [alloc_eq_grow, alloc_eq_grow, grow_grow]; rfl⟩
theorem SortE_any {w : World} {base g cap : Nat} {xs : List (Int × Int)} {l : TM} (h : w.ownsRow base 74 2 (.slice (some ⟨g, 0, none⟩) xs.length cap) xs.length (xs.flatMap encE)) (hp : xs.Perm l) (hr : Rising l) (hsz : xs.length ≤ 1000000) :
    Calls Try.prog 39 #[.slice (some ⟨g, 0, none⟩) xs.length cap, .func (.func 40) #[] #[]] w fun e w' => e = .returned (.tuple #[]) ∧ w'.ownsRow base 74 2 (.slice (some ⟨g, 0, none⟩) l.length cap) l.length (l.flatMap encE) ∧ w.grownBy w' (some g) := by
  have hlt : g < w.heap.size := (h.lt g rfl).2
  have eg : ∀ args w, (callFunc 40 args).run Try.prog w = .ok (.enter 40 args) w := enters_of Try.func40 (by kernel_rfl) rfl
  have hcon := AnyQ.slices_SortFunc Try.sortE 2 Try.isAgg74 Try.sizeOf74 encE encE_len (fun x v hv => by simp [encE] at hv; rcases hv with rfl | rfl <;> rfl) cfE swoE 40 #[] g 0 cap xs.toArray w eg (cmpLaysE g 0 _ w) (holdsK_of_row encE_len h) hlt (by simp; omega)
  change Calls Try.prog 39 _ _ _ at hcon
  refine (by simpa using hcon : Calls Try.prog 39 #[.slice (some ⟨g, 0, none⟩) xs.length cap, .func (.func 40) #[] #[]] w _).mono ?_
  rintro e w' ⟨rfl, d', ⟨hs, _, hperm⟩, hsort, n, os, rfl⟩
  have hsz' : d'.toList.length = xs.length := by simpa using hs
  have hpm : d'.toList.Perm xs := by
    have e1 : d'.extract 0 xs.length = d' := by
      have := Array.extract_size (xs := d'); rw [hs] at this; simpa using this
    have e2 : xs.toArray.extract 0 xs.length = xs.toArray := by
      simp
    rw [e1, e2] at hperm
    exact hperm
  have heq : d'.toList = l := by
    refine List.Perm.eq_of_pairwise (le := fun a b => a.1 ≤ b.1) ?_ ?_ ?_ (hpm.trans hp)
    · intro a b ha hb h1 h2
      have ha' : a ∈ l := (hpm.trans hp).mem_iff.1 ha
      have e1 := get_of_mem hr ha'
      have e2 := get_of_mem hr hb
      rw [show a.1 = b.1 from by omega] at e1
      exact Prod.ext (by omega) (by omega)
    · rw [List.pairwise_iff_getElem]
      intro i j hi hj hij
      have hi' : i < d'.size := by simpa using hi
      have hj' : j < d'.size := by simpa using hj
      have h3 := hsort i j (Nat.zero_le _) hij (by rw [← hsz']; exact hj)
      rw [ltE, getElem!_pos d' i hi', getElem!_pos d' j hj'] at h3
      simp only [decide_eq_false_iff_not] at h3
      simp only [Array.getElem_toList]
      omega
    · exact hr.imp (fun h => by omega)
  refine ⟨rfl, ?_, grownBy_sortedK _⟩
  have := ownsRow_sortedK (n := n) (os := os) encE_len (ys := d'.toList) hsz' h
  rw [heq] at this
  rw [← heq] at this ⊢
  simpa using this
end Go.Proofs.Ytmmmjkmhlkkdkaa
