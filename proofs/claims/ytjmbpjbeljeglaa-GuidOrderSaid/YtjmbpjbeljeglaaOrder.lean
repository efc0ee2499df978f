/-
  Plain mathematics: GUIDs stand in the order of their texts.
-/
import Derived.Test.YtjmbpjbeljeglaaGuidA
import Derived.Test.YtjmbpjbeljeglaaGuidN
import Derived.Test.YtjmbpjbeljeglaaEq
namespace Go.Proofs.Ytjmbpjbeljeglaa
open Go

def lessI : List Int → List Int → Bool
  | _, [] => false
  | [], _ :: _ => true
  | a :: x, b :: y => decide (a < b) || (a == b && lessI x y)
theorem less_bytes : ∀ (xs ys : List Int), (∀ x ∈ xs, 0 ≤ x ∧ x ≤ 255) → (∀ x ∈ ys, 0 ≤ x ∧ x ≤ 255) →
    Op.bytesLess (xs.map fun n => UInt8.ofNat n.toNat) (ys.map fun n => UInt8.ofNat n.toNat) = lessI xs ys
  | _, [], _, _ => by simp [Op.bytesLess, lessI]
  | [], y :: ys, _, _ => by simp [Op.bytesLess, lessI]
  | x :: xs, y :: ys, hx, hy => by
    have ih := less_bytes xs ys (fun z h => hx z (List.mem_cons_of_mem _ h)) (fun z h => hy z (List.mem_cons_of_mem _ h))
    obtain ⟨a0, a1⟩ := hx x (List.mem_cons_self ..)
    obtain ⟨b0, b1⟩ := hy y (List.mem_cons_self ..)
    have e1 : (UInt8.ofNat x.toNat < UInt8.ofNat y.toNat) ↔ x < y := by
      rw [UInt8.lt_iff_toNat_lt]
      simp
      omega
    have e2 : (UInt8.ofNat x.toNat == UInt8.ofNat y.toNat) = (x == y) := by
      rw [Bool.eq_iff_iff]
      simp only [beq_iff_eq]
      constructor
      · intro h
        have := congrArg UInt8.toNat h
        simp at this
        omega
      · intro h; rw [h]
    simp only [List.map_cons, Op.bytesLess, lessI, ih, e2]
    congr 1
    exact decide_eq_decide.2 e1
/-- The text from byte k on. -/
def tlF (g : List Int) : Nat → Nat → List Int
  | _, 0 => [125]
  | k, f + 1 => (if isD k then [45] else []) ++ [dg (g.getD k 0 / 16), dg (g.getD k 0 % 16)] ++ tlF g (k + 1) f
theorem prUp_tl (g : List Int) : ∀ f k, prUp g k ++ tlF g k f = prUp g (k + f) ++ [125]
  | 0, _ => rfl
  | f + 1, k => by
    have ih := prUp_tl g f (k + 1)
    rw [show k + (f + 1) = k + 1 + f by omega, ← ih]
    have hs : prUp g (k + 1) = (if isD k then prUp g k ++ [45] else prUp g k) ++ [dg (g.getD k 0 / 16), dg (g.getD k 0 % 16)] := rfl
    rw [hs]
    simp only [tlF]
    split <;> simp
theorem prL_tl (g : List Int) : prL g = 123 :: tlF g 0 16 := by
  have := prUp_tl g 16 0
  rw [Nat.zero_add] at this
  exact this.symm
theorem dg_lt {u v : Int} (h0 : 0 ≤ u) (h1 : u < 16) (h2 : 0 ≤ v) (h3 : v < 16) : (dg u < dg v ↔ u < v) ∧ (dg u = dg v ↔ u = v) := by
  unfold dg; split <;> split <;> constructor <;> constructor <;> intro h <;> omega
theorem less_tl {a b : List Int} (ha : IsG a) (hb : IsG b) : ∀ f k, k + f = 16 → lessI (tlF a k f) (tlF b k f) = decide (cmpL (a.drop k) (b.drop k) < 0)
  | 0, k, h => by
    obtain rfl : k = 16 := by omega
    have e1 : a.drop 16 = [] := List.drop_of_length_le (by rw [ha.len]; omega)
    rw [e1]
    simp [tlF, lessI, cmpL]
  | f + 1, k, h => by
    have ih := less_tl ha hb f (k + 1) (by omega)
    have a0 := ha.lo k
    have a1 := ha.hi k
    have b0 := hb.lo k
    have b1 := hb.hi k
    rw [cmpL_at a b k (by rw [ha.len]; omega) (by rw [hb.len]; omega)]
    have hd : lessI ([dg (a.getD k 0 / 16), dg (a.getD k 0 % 16)] ++ tlF a (k + 1) f) ([dg (b.getD k 0 / 16), dg (b.getD k 0 % 16)] ++ tlF b (k + 1) f) = decide ((if a.getD k 0 < b.getD k 0 then (-1 : Int) else if b.getD k 0 < a.getD k 0 then 1 else cmpL (a.drop (k + 1)) (b.drop (k + 1))) < 0) := by
      generalize a.getD k 0 = x at *
      generalize b.getD k 0 = y at *
      have h1 := dg_lt (u := x / 16) (v := y / 16) (by omega) (by omega) (by omega) (by omega)
      have h2 := dg_lt (u := x % 16) (v := y % 16) (by omega) (by omega) (by omega) (by omega)
      simp only [List.cons_append, List.nil_append, lessI, ih]
      rw [Bool.eq_iff_iff]
      simp only [Bool.or_eq_true, Bool.and_eq_true, decide_eq_true_eq, beq_iff_eq, h1.1, h1.2, h2.1, h2.2]
      by_cases c1 : x < y
      · rw [if_pos c1]; constructor <;> intro <;> omega
      · by_cases c2 : y < x
        · rw [if_neg c1, if_pos c2]
          constructor
          · intro h; omega
          · intro h; omega
        · rw [if_neg c1, if_neg c2]
          obtain rfl : x = y := by omega
          constructor
          · rintro (h | ⟨_, h | ⟨_, h⟩⟩)
            · omega
            · omega
            · exact h
          · intro h; exact .inr ⟨rfl, .inr ⟨rfl, h⟩⟩
    simp only [tlF]
    by_cases hD : isD k = true
    · rw [if_pos hD]
      simp only [List.cons_append, List.nil_append, lessI] at hd ⊢
      rw [← hd]; simp
    · rw [if_neg hD]
      simpa using hd
/-- The order of texts is the order of GUIDs. -/
theorem less_print {a b : List Int} (ha : IsG a) (hb : IsG b) : Op.bytesLess (strI (prL a)).toList (strI (prL b)).toList = decide (cmpL a b < 0) := by
  rw [strI_list, strI_list, less_bytes _ _ (prL_bd ha) (prL_bd hb), prL_tl, prL_tl]
  have := less_tl ha hb 16 0 rfl
  simp only [List.drop_zero] at this
  rw [← this]
  simp [lessI]
theorem cmpL_val : ∀ (a b : List Int), cmpL a b = -1 ∨ cmpL a b = 0 ∨ cmpL a b = 1
  | [], _ => by simp [cmpL]
  | _ :: _, [] => by simp [cmpL]
  | x :: a, y :: b => by
    have := cmpL_val a b
    unfold cmpL
    split
    · exact .inl rfl
    · split
      · exact .inr (.inr rfl)
      · exact this
theorem cmpL_neg : ∀ (a b : List Int), cmpL b a = - cmpL a b
  | [], [] => rfl
  | [], _ :: _ => by simp [cmpL]
  | _ :: _, [] => by simp [cmpL]
  | x :: a, y :: b => by
    have := cmpL_neg a b
    unfold cmpL
    by_cases h : x < y
    · rw [if_neg (by omega), if_pos h, if_pos h]; rfl
    · by_cases h2 : y < x
      · rw [if_pos h2, if_neg h, if_pos h2]
      · rw [if_neg h2, if_neg h, if_neg h, if_neg h2, this]
theorem cmpL_eq : ∀ (a b : List Int), a.length = b.length → (cmpL a b = 0 ↔ a = b)
  | [], [], _ => by simp [cmpL]
  | [], _ :: _, h => by simp at h
  | _ :: _, [], h => by simp at h
  | x :: a, y :: b, h => by
    have ih := cmpL_eq a b (by simpa using h)
    unfold cmpL
    by_cases c : x < y
    · rw [if_pos c]; simp; intro e; omega
    · by_cases c2 : y < x
      · rw [if_neg c, if_pos c2]; simp; intro e; omega
      · rw [if_neg c, if_neg c2, ih]
        obtain rfl : x = y := by omega
        simp
theorem cmpL_trans : ∀ (a b c : List Int), a.length = b.length → b.length = c.length → cmpL a b ≤ 0 → cmpL b c ≤ 0 → cmpL a c ≤ 0
  | [], _, _, _, _, _, _ => by simp [cmpL]
  | x :: a, [], _, h, _, _, _ => by simp at h
  | x :: a, y :: b, [], _, h, _, _ => by simp at h
  | x :: a, y :: b, z :: c, h1, h2, p, q => by
    have ih := cmpL_trans a b c (by simpa using h1) (by simpa using h2)
    unfold cmpL at p q ⊢
    by_cases d1 : x < y
    · by_cases d2 : y < z
      · rw [if_pos (by omega)]; omega
      · by_cases d3 : z < y
        · rw [if_neg d2, if_pos d3] at q; omega
        · rw [if_pos (by omega)]; omega
    · by_cases d2 : y < x
      · rw [if_neg d1, if_pos d2] at p; omega
      · rw [if_neg d1, if_neg d2] at p
        by_cases d3 : y < z
        · rw [if_pos (by omega)]; omega
        · by_cases d4 : z < y
          · rw [if_neg d3, if_pos d4] at q; omega
          · rw [if_neg d3, if_neg d4] at q
            rw [if_neg (by omega), if_neg (by omega)]
            exact ih p q
end Go.Proofs.Ytjmbpjbeljeglaa
