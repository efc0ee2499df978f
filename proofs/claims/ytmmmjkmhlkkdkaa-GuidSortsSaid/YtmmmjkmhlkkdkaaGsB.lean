/-
  GuidSorts' walk.
-/
import Derived.Test.YtmmmjkmhlkkdkaaGsA
import Derived.Test.YtmmmjkmhlkkdkaaGuidF
import Derived.Test.YtmmmjkmhlkkdkaaAwk1
import Derived.Test.YtmmmjkmhlkkdkaaMixD
import Derived.Shelf.SlicesQ.Load
namespace Go.Proofs.Ytmmmjkmhlkkdkaa
open Go Go.ChangeShapes Go.WideShapes Go.ChangeAt Go.RowKit

theorem cmpL_anti : ∀ x y : List Int, x.length = y.length → cmpL x y = - cmpL y x
  | [], [], _ => rfl
  | [], _ :: _, h => by simp at h
  | _ :: _, [], h => by simp at h
  | a :: x, b :: y, h => by
    have ih := cmpL_anti x y (by simpa using h)
    rw [cmpL, cmpL]
    by_cases c1 : a < b
    · rw [if_pos c1, if_neg (by omega), if_pos c1]
    · rw [if_neg c1]
      by_cases c2 : b < a
      · rw [if_pos c2, if_pos c2]; rfl
      · rw [if_neg c2, if_neg c2, if_neg c1]; exact ih
def cntL (l : List (List Int)) (x : List Int) : Nat := (l.filter fun y => y == x).length
theorem cntL_perm {l m : List (List Int)} (h : l.Perm m) (x : List Int) : cntL l x = cntL m x := (h.filter _).length_eq
theorem cntL_take {l : List (List Int)} {k : Nat} {y : List Int} (hy : l[k]? = some y) (x : List Int) : cntL (l.take (k + 1)) x = cntL (l.take k) x + (if y = x then 1 else 0) := by
  have hk := (List.getElem?_eq_some_iff.1 hy).1
  have e : l.take (k + 1) = l.take k ++ [l[k]] := by rw [List.take_succ_eq_append_getElem hk]
  have e2 : l[k] = y := (List.getElem?_eq_some_iff.1 hy).2
  rw [e, e2]
  unfold cntL
  rw [List.filter_append, List.length_append]
  congr 1
  by_cases h : y = x <;> simp [h]
theorem cntL_le (l : List (List Int)) (x : List Int) : cntL l x ≤ l.length := List.length_filter_le _ _
/-- Sixteen cells at an address. -/
def At16 (W : World) (a : Addr) (x : List Int) : Prop := ∀ j v, (u8s x)[j]? = some v → W.cell? (a.add j) = some v
theorem At16.run {W : World} {a : Addr} {x : List Int} (h : At16 W a x) (hx : x.length = 16) : Sem.run Try.prog (loadCellsFrom a 0 16 #[]) W = .ok (u8s x) W := by
  have := run_loadCellsFrom_list Try.prog W a (u8s x).toList 16 (by simpa [u8s_size] using hx) (fun j v hv => h j v (by simpa using hv))
  simpa using this
theorem add_block2 (a : Addr) (k : Nat) : (a.add k).block = a.block := by unfold Addr.add; split <;> rfl
theorem At16.fr {W W' : World} {a : Addr} {x : List Int} (h : At16 W a x) (hf : Fr (fun _ => False) W W') : At16 W' a x := fun j v hv => by
  have h1 := h j v hv
  have h2 := World.block_lt_of_cell? W _ h1
  exact (World.cell?_of_block (hf.block _ h2 (fun h => h))).trans h1
theorem eq51 (x y : List Int) (hx : x.length = 16) (hy : y.length = 16) (w : World) : (Op.equalIn 10000 51 (.agg (u8s x)) (.agg (u8s y))).run Try.prog w = .ok (x == y) w :=
  run_equalIn_u8s w 9998 51 5 16 Try.underlying51 Try.underlying5 szB x y hx hy
theorem guard51 (op : BinOp) (a b : Operand) (xs ys : Array Value) (W : World) : (eqGuard op 51 a b (.agg xs) (.agg ys)).run Try.prog W = .ok () W := run_eqGuard_agg W op 51 a b xs ys (by kernel_rfl)
theorem At16.of_owns {W : World} {B g n cap q : Nat} {l : List (List Int)} {x : List Int} (h : W.ownsRow B 51 16 (.slice (some ⟨g, 0, none⟩) n cap) n (l.flatMap enc16)) (_hn : n = l.length) (hx : l[q]? = some x) (h16 : x.length = 16) : At16 W ⟨g, q * 16, none⟩ x := fun j v hv => by
  have hj : j < 16 := by
    have := (Array.getElem?_eq_some_iff.1 hv).1
    rw [u8s_size] at this; omega
  have hq := (List.getElem?_eq_some_iff.1 hx).1
  have hc : (l.flatMap enc16)[q * 16 + j]? = some v := by
    clear h _hn
    induction l generalizing q with
    | nil => cases hx
    | cons a r ih =>
      rw [List.flatMap_cons]
      cases q with
      | zero =>
        simp at hx; subst hx
        rw [List.getElem?_append_left (by rw [enc16_len]; omega)]
        have e : enc16 a = (u8s a).toList := by unfold enc16 u8s; rw [norm16_id h16]
        rw [e]
        simpa using hv
      | succ q =>
        rw [List.getElem?_append_right (by rw [enc16_len]; omega), enc16_len]
        have := ih (q := q) (by simpa using hx) (by simpa using hq)
        rw [← this]
        congr 1
        omega
  have := h.cells (g := g) rfl (q * 16 + j) v hc
  have e1 : (⟨g, 0, none⟩ : Addr).add (q * 16 + j) = (⟨g, q * 16, none⟩ : Addr).add j := by
    unfold Addr.add
    by_cases hj0 : j = 0
    · subst hj0
      by_cases hq0 : q * 16 = 0
      · simp [hq0]
      · simp [hq0]
    · simp [hj0]
  rw [e1] at this
  exact this
/-- A row of GUIDs that came in. -/
structure GRow (w : World) (B : Nat) (ad : Option Addr) (l : List (List Int)) : Prop where
  some : 0 < l.length → ∃ a, ad = some a ∧ a.block < B
  at' : ∀ (i : Nat) (a : Addr) (x : List Int), ad = Option.some a → l[i]? = Option.some x → At16 w (a.add (i * 16)) x
  len : ∀ x ∈ l, x.length = 16
theorem GRow.below {w w' : World} {B : Nat} {ad : Option Addr} {l : List (List Int)} (h : GRow w B ad l) (hB : Below B w w') : GRow w' B ad l :=
  ⟨h.some, fun i a x ha hx j v hv => (by
    obtain ⟨a', h1, h2⟩ := h.some (by have := (List.getElem?_eq_some_iff.1 hx).1; omega)
    rw [ha] at h1; cases h1
    exact hB.cell (p := (a.add (i * 16)).add j) (by rw [add_block2, add_block2]; exact h2) : w'.cell? ((a.add (i * 16)).add j) = w.cell? ((a.add (i * 16)).add j)).trans (h.at' i a x ha hx j v hv), h.len⟩
/-- The cells of a row that came in, one behind the other. -/
theorem GRow.flat {w : World} {B : Nat} {a : Addr} {l : List (List Int)} (h : GRow w B (Option.some a) l) : ∀ j v, (l.flatMap enc16)[j]? = Option.some v → w.cell? (a.add j) = Option.some v := fun j v hv => by
  have hj : j < l.length * 16 := by rw [← flat16_len]; exact (List.getElem?_eq_some_iff.1 hv).1
  have hq : j / 16 < l.length := by omega
  have hx : l[j / 16]? = Option.some l[j / 16] := List.getElem?_eq_getElem hq
  have hm := h.len l[j / 16] (List.getElem_mem hq)
  have h1 := h.at' (j / 16) a _ rfl hx (j % 16)
  have e : j = j / 16 * 16 + j % 16 := by omega
  have e2 : (a.add (j / 16 * 16)).add (j % 16) = a.add j := by
    conv => rhs; rw [e]
    unfold Addr.add
    by_cases h0 : j % 16 = 0
    · rw [h0]; simp
    · by_cases h3 : j / 16 * 16 = 0
      · simp [h0, h3]
      · simp [h0, h3]; omega
  rw [e2] at h1
  refine h1 v ?_
  have h4 := flat_at enc16 16 enc16_len l j hj
  rw [hv] at h4
  have h5 : l[j / 16]! = l[j / 16] := getElem!_pos l _ hq
  rw [h5] at h4
  have e3 : enc16 l[j / 16] = (u8s l[j / 16]).toList := by unfold enc16 u8s; rw [norm16_id hm]
  rw [e3] at h4
  have h6 : j % 16 < (u8s l[j / 16]).size := by rw [u8s_size, hm]; omega
  rw [Array.getElem?_eq_getElem h6]
  rw [h4]
  congr 1
  rw [getElem!_pos _ _ (by simpa using h6)]
  simp
end Go.Proofs.Ytmmmjkmhlkkdkaa
