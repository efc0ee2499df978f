/-
  slices.SortFunc at the leases' entries, by their keys.
-/
import Derived.Test.YtbdhjkdojgdhbaaLay1
import Derived.Test.YtbdhjkdojgdhbaaKRow
import Derived.Test.YtbdhjkdojgdhbaaLvB
import Derived.Test.YtbdhjkdojgdhbaaSoD
namespace Go.Proofs.Ytbdhjkdojgdhbaa
open Go Go.Shelf Go.RowKit Go.Lib Go.Sort

abbrev TEn : TypeId := 69
theorem onc_len (x : On) : (onc x).length = 2 := rfl
def cmp3 (a b : Int) : Int := if a < b then -1 else if b < a then 1 else 0
def cfO (x y : On) : Int := cmp3 x.1 y.1
theorem cmp3_lt (a b : Int) : cmp3 a b < 0 ↔ a < b := by
  unfold cmp3
  split
  · omega
  · split <;> omega
theorem ltO (x y : On) : ltOf cfO x y = decide (x.1 < y.1) := by
  show decide (cmp3 x.1 y.1 < 0) = _
  rw [Bool.eq_iff_iff]
  simp only [decide_eq_true_eq]
  exact cmp3_lt _ _
theorem swoO : SWO (ltOf cfO) where
  irrefl x := by rw [ltO]; simp
  trans x y z h1 h2 := by
    rw [ltO] at *
    simp only [decide_eq_true_eq] at *
    omega
  ntrans x y z h1 h2 := by
    rw [ltO] at *
    simp only [decide_eq_false_iff_not] at *
    omega
theorem Compare_u (a b : Int) (w : World) : Calls Try.prog 38 #[.int .u64 a, .int .u64 b] w fun e w' => e = .returned (.int .i64 (cmp3 a b)) ∧ w = w' := by
  have HN := hid isNaN_u
  by_cases h1 : a < b
  · have hd : decide (a < b) = true := by simpa using h1
    have he : cmp3 a b = -1 := by simp [cmp3, h1]
    rw [he]
    clear he h1
    go_enter Try.func38, Try.ntmps38
    go_wp2_with (first | (go_at_call 52; refine (HN.out _ _).mono ?_; rintro e w' ⟨rfl, rfl⟩))
    go_ret
    exact ⟨rfl, rfl⟩
  · have hd : decide (a < b) = false := by simpa using h1
    by_cases h2 : b < a
    · have hd2 : decide (b < a) = true := by simpa using h2
      have he : cmp3 a b = 1 := by simp [cmp3, h1, h2]
      rw [he]
      clear he h1 h2
      go_enter Try.func38, Try.ntmps38
      go_wp2_with (first | (go_at_call 52; refine (HN.out _ _).mono ?_; rintro e w' ⟨rfl, rfl⟩))
      go_ret
      exact ⟨rfl, rfl⟩
    · have hd2 : decide (b < a) = false := by simpa using h2
      have he : cmp3 a b = 0 := by simp [cmp3, h1, h2]
      rw [he]
      clear he h1 h2
      go_enter Try.func38, Try.ntmps38
      go_wp2_with (first | (go_at_call 52; refine (HN.out _ _).mono ?_; rintro e w' ⟨rfl, rfl⟩))
      go_ret
      exact ⟨rfl, rfl⟩
theorem closure_o (x y : On) (w : World) : Calls Try.prog 37 #[.agg #[.int .u64 x.1, .int .i64 x.2], .agg #[.int .u64 y.1, .int .i64 y.2]] w fun e w' => e = .returned (.int .i64 (cfO x y)) ∧ w' = (w.alloc (.cells #[.int .u64 x.1, .int .i64 x.2] TEn)).alloc (.cells #[.int .u64 y.1, .int .i64 y.2] TEn) := by
  have hc := hid (fun W => Compare_u x.1 y.1 W)
  unfold cfO
  generalize cmp3 x.1 y.1 = r at hc ⊢
  go_enter Try.func37, Try.ntmps37
  go_wp2_with (go_at_call 38; refine (hc.out _).mono ?_; rintro e w' ⟨rfl, rfl⟩)
  go_ret
  exact ⟨rfl, rfl⟩
theorem cmpLaysO (blk off size : Nat) (w : World) : CmpLays Try.prog 37 #[] onc 2 cfO blk off size w :=
  fun _ _ _ _ x y => (closure_o x y _).mono fun _ _ ⟨he, hw⟩ => by
    subst hw
    exact ⟨he, 0, _, by rw [alloc_eq_grow, alloc_eq_grow, grow_grow]; rfl⟩
theorem SortO_any {w : World} {base g cap : Nat} {xs l : List On} (h : w.ownsRow base TEn 2 (.slice (some ⟨g, 0, none⟩) xs.length cap) xs.length (onv xs)) (hp : xs.Perm l) (hr : Rise l) (hsz : xs.length ≤ 1000000) :
    Calls Try.prog 36 #[.slice (some ⟨g, 0, none⟩) xs.length cap, .func (.func 37) #[] #[]] w fun e w' => e = .returned (.tuple #[]) ∧ w'.ownsRow base TEn 2 (.slice (some ⟨g, 0, none⟩) l.length cap) l.length (onv l) ∧ w.grownBy w' (some g) := by
  have hlt : g < w.heap.size := (h.lt g rfl).2
  have eg : ∀ args w, (callFunc 37 args).run Try.prog w = .ok (.enter 37 args) w := enters_of Try.func37 (by kernel_rfl) rfl
  have hcon := AnyQ.slices_SortFunc Try.sortE 2 Try.isAgg69 Try.sizeOf69 onc onc_len (fun x v hv => by simp [onc] at hv; rcases hv with rfl | rfl <;> rfl) cfO swoO 37 #[] g 0 cap xs.toArray w eg (cmpLaysO g 0 _ w) (holdsK_of_row onc_len h) hlt (by simp; omega)
  change Calls Try.prog 36 _ _ _ at hcon
  refine (by simpa using hcon : Calls Try.prog 36 #[.slice (some ⟨g, 0, none⟩) xs.length cap, .func (.func 37) #[] #[]] w _).mono ?_
  rintro e w' ⟨rfl, d', ⟨hs, _, hperm⟩, hsort, n, os, rfl⟩
  have hsz' : d'.toList.length = xs.length := by simpa using hs
  have hpm : d'.toList.Perm xs := by
    have e1 : d'.extract 0 xs.length = d' := by
      have := Array.extract_size (xs := d'); rw [hs] at this; simpa using this
    have e2 : xs.toArray.extract 0 xs.length = xs.toArray := by simp
    rw [e1, e2] at hperm
    exact hperm
  have heq : d'.toList = l := by
    refine List.Perm.eq_of_pairwise (le := fun a b => a.1 ≤ b.1) ?_ ?_ ?_ (hpm.trans hp)
    · intro a b ha hb h1 h2
      have ha' : a ∈ l := (hpm.trans hp).mem_iff.1 ha
      obtain ⟨i, hi⟩ := List.mem_iff_getElem?.1 ha'
      obtain ⟨j, hj⟩ := List.mem_iff_getElem?.1 hb
      obtain rfl := rise_one hr hi hj (by omega)
      rw [hi] at hj
      exact Option.some.inj hj
    · rw [List.pairwise_iff_getElem]
      intro i j hi hj hij
      have hi' : i < d'.size := by simpa using hi
      have hj' : j < d'.size := by simpa using hj
      have h3 := hsort i j (Nat.zero_le _) hij (by rw [← hsz']; exact hj)
      rw [ltO, getElem!_pos d' i hi', getElem!_pos d' j hj'] at h3
      simp only [decide_eq_false_iff_not] at h3
      simp only [Array.getElem_toList]
      omega
    · exact hr.imp (fun h => by omega)
  refine ⟨rfl, ?_, grownBy_sortedK _⟩
  have := ownsRow_sortedK (n := n) (os := os) onc_len (ys := d'.toList) hsz' h
  rw [heq] at this
  rw [← heq] at this ⊢
  simpa using this
end Go.Proofs.Ytbdhjkdojgdhbaa
