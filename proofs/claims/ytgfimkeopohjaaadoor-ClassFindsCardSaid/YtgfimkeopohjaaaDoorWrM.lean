/-
  Numbers and texts as bytes, as plain lists: how they are laid, and how they are read.
-/
import Derived.WalkKit
namespace Go.Proofs.YtgfimkeopohjaaaDoor

/-- A size. -/
def Siz (k : Nat) : Prop := k = 1 ∨ k = 2 ∨ k = 4 ∨ k = 8
def fits (s : Int) : Bool := s == 1 || s == 2 || s == 4 || s == 8
set_option maxRecDepth 100000 in
theorem fits_iff {s : Int} : fits s = true ↔ s = 1 ∨ s = 2 ∨ s = 4 ∨ s = 8 := by simp [fits, or_assoc]
set_option maxRecDepth 100000 in
theorem fits_nat {s : Int} (h : fits s = true) : ∃ k : Nat, s = k ∧ Siz k := by
  rcases fits_iff.1 h with rfl | rfl | rfl | rfl
  · exact ⟨1, rfl, .inl rfl⟩
  · exact ⟨2, rfl, .inr (.inl rfl)⟩
  · exact ⟨4, rfl, .inr (.inr (.inl rfl))⟩
  · exact ⟨8, rfl, .inr (.inr (.inr rfl))⟩
set_option maxRecDepth 100000 in
theorem Siz.fits {k : Nat} (h : Siz k) : fits (k : Int) = true := by rcases h with rfl | rfl | rfl | rfl <;> rfl
def gap (n k : Nat) : Nat := (k - n % k) % k
set_option maxRecDepth 100000 in
theorem gap_lt {n k : Nat} (h : Siz k) : gap n k < k := Nat.mod_lt _ (by rcases h with rfl | rfl | rfl | rfl <;> omega)
set_option maxRecDepth 100000 in
theorem gap_mod {n k : Nat} (h : Siz k) : (n + gap n k) % k = 0 := by
  unfold gap
  rcases h with rfl | rfl | rfl | rfl <;> omega
set_option maxRecDepth 100000 in
theorem gap_least {n k j : Nat} (h : Siz k) (hj : j < gap n k) : (n + j) % k ≠ 0 := by
  unfold gap at hj
  rcases h with rfl | rfl | rfl | rfl <;> omega
/-- The bytes of a number, the lowest first. -/
def byt : Int → Nat → List Int
  | _, 0 => []
  | n, k + 1 => n % 256 :: byt (n / 256) k
set_option maxRecDepth 100000 in
theorem byt_len : ∀ (k : Nat) (n : Int), (byt n k).length = k
  | 0, _ => rfl
  | k + 1, n => by simp [byt, byt_len k]
set_option maxRecDepth 100000 in
theorem byt_succ : ∀ (k : Nat) (n : Int), byt n (k + 1) = byt n k ++ [n / 256 ^ k % 256]
  | 0, n => by simp [byt]
  | k + 1, n => by
    rw [byt, byt_succ k, byt, List.cons_append]
    congr 3
    rw [Int.ediv_ediv_of_nonneg (by omega)]
    congr 1
    rw [Int.pow_succ, Int.mul_comm]
def Byt (xs : List Int) : Prop := ∀ x ∈ xs, 0 ≤ x ∧ x ≤ 255
set_option maxRecDepth 100000 in
theorem byt_ok : ∀ (k : Nat) (n : Int), Byt (byt n k)
  | 0, _ => fun x hx => by simp [byt] at hx
  | k + 1, n => fun x hx => by
    simp only [byt, List.mem_cons] at hx
    rcases hx with rfl | hx
    · omega
    · exact byt_ok k _ x hx
/-- A row of bytes as a number. -/
def valL : List Int → Int
  | [] => 0
  | x :: xs => x + 256 * valL xs
set_option maxRecDepth 100000 in
theorem valL_byt : ∀ (k : Nat) (n : Int), 0 ≤ n → n < 256 ^ k → valL (byt n k) = n
  | 0, n, h0, h1 => by simp at h1; simp [byt, valL]; omega
  | k + 1, n, h0, h1 => by
    rw [byt, valL, valL_byt k _ (by omega) (by rw [Int.pow_succ] at h1; omega)]
    omega
set_option maxRecDepth 100000 in
theorem valL_pos : ∀ xs, Byt xs → 0 ≤ valL xs ∧ valL xs < 256 ^ xs.length
  | [], _ => by simp [valL]
  | x :: xs, h => by
    have h1 := valL_pos xs (fun y hy => h y (by simp [hy]))
    have h2 := h x (by simp)
    rw [valL, List.length_cons, Int.pow_succ]
    omega
set_option maxRecDepth 100000 in
theorem valL_app : ∀ xs (x : Int), valL (xs ++ [x]) = valL xs + x * 256 ^ xs.length
  | [], x => by simp [valL]
  | y :: ys, x => by
    rw [List.cons_append, valL, valL_app ys, valL, List.length_cons, Int.pow_succ, Int.mul_add]
    have : 256 * (x * 256 ^ ys.length) = x * (256 ^ ys.length * 256) := by
      rw [Int.mul_comm 256 (x * 256 ^ ys.length), Int.mul_assoc]
    omega
/-- A number laid behind bytes. -/
def lay (xs : List Int) (n : Int) (k : Nat) : List Int := xs ++ List.replicate (gap xs.length k) 0 ++ byt n k
set_option maxRecDepth 100000 in
theorem lay_len (xs : List Int) (n : Int) (k : Nat) : (lay xs n k).length = xs.length + gap xs.length k + k := by simp [lay, byt_len]; omega
/-- What is read at a place: the number, the place behind it, the error. -/
def rd (b : List Int) (a : Nat) (s : Int) : Int × Nat × Int :=
  if fits s = false then (0, a, 1)
  else if b.length < a + gap a s.toNat + s.toNat then (0, a, 6)
  else if ((b.drop a).take (gap a s.toNat)).all (· == 0) = false then (0, a, 5)
  else (valL ((b.drop (a + gap a s.toNat)).take s.toNat), a + gap a s.toNat + s.toNat, 0)
def rdT (b : List Int) (a : Nat) (m : Int) : List Int × Nat × Int :=
  if (rd b a 4).2.2 ≠ 0 then ([], a, (rd b a 4).2.2)
  else if m < 0 ∨ m < (rd b a 4).1 then ([], a, 20)
  else if (b.length : Int) - (rd b a 4).2.1 < (rd b a 4).1 then ([], a, 6)
  else ((b.drop (rd b a 4).2.1).take (rd b a 4).1.toNat, (rd b a 4).2.1 + (rd b a 4).1.toNat, 0)
set_option maxRecDepth 100000 in
theorem rd_place {b : List Int} {a : Nat} {s : Int} (ha : a ≤ b.length) : (rd b a s).2.1 ≤ b.length := by
  unfold rd
  split
  · exact ha
  · split
    · exact ha
    · split
      · exact ha
      · simp only; omega
set_option maxRecDepth 100000 in
theorem valL_le {xs : List Int} (h : Byt xs) (n : Nat) (hn : xs.length ≤ n) : 0 ≤ valL xs ∧ valL xs < 256 ^ n := by
  have h1 := valL_pos xs h
  refine ⟨h1.1, Int.lt_of_lt_of_le h1.2 ?_⟩
  have := Nat.pow_le_pow_right (n := 256) (by omega) hn
  have h2 : ((256 ^ xs.length : Nat) : Int) ≤ ((256 ^ n : Nat) : Int) := Int.ofNat_le.2 this
  rw [Int.natCast_pow, Int.natCast_pow] at h2
  exact h2
set_option maxRecDepth 100000 in
theorem Byt.sub {xs ys : List Int} (h : Byt xs) (hs : ∀ y ∈ ys, y ∈ xs) : Byt ys := fun y hy => h y (hs y hy)
set_option maxRecDepth 100000 in
theorem Byt.part {xs : List Int} (h : Byt xs) (a n : Nat) : Byt ((xs.drop a).take n) := h.sub fun _ hy => List.mem_of_mem_drop (List.mem_of_mem_take hy)
set_option maxRecDepth 100000 in
theorem rd_pos {b : List Int} {a : Nat} {s : Int} (h : Byt b) : 0 ≤ (rd b a s).1 ∧ (rd b a s).1 < 18446744073709551616 := by
  have z : (0 : Int) ≤ 0 ∧ (0 : Int) < 18446744073709551616 := by decide
  unfold rd
  by_cases h1 : fits s = false
  · rw [if_pos h1]; exact z
  · rw [if_neg h1]
    obtain ⟨k, rfl, hk⟩ := fits_nat (by simpa using h1)
    by_cases h2 : b.length < a + gap a (k : Int).toNat + (k : Int).toNat
    · rw [if_pos h2]; exact z
    · rw [if_neg h2]
      by_cases h3 : ((b.drop a).take (gap a (k : Int).toNat)).all (· == 0) = false
      · rw [if_pos h3]; exact z
      · rw [if_neg h3]
        have := valL_le (h.part (a + gap a (k : Int).toNat) (k : Int).toNat) 8 (by simp; rcases hk with rfl | rfl | rfl | rfl <;> omega)
        simp only at this ⊢
        have e : (256 : Int) ^ 8 = 18446744073709551616 := by decide
        rw [e] at this
        exact this
set_option maxRecDepth 100000 in
theorem rdT_place {b : List Int} {a : Nat} {m : Int} (hb : Byt b) (ha : a ≤ b.length) : (rdT b a m).2.1 ≤ b.length := by
  have h1 := rd_place (s := 4) ha
  have h2 := rd_pos (a := a) (s := 4) hb
  obtain ⟨q, hq⟩ : ∃ q, q = rd b a 4 := ⟨_, rfl⟩
  unfold rdT
  rw [← hq] at h1 h2 ⊢
  split
  · exact ha
  · split
    · exact ha
    · split
      · exact ha
      · rename_i h5 h4 h3
        show q.2.1 + q.1.toNat ≤ b.length
        omega
set_option maxRecDepth 100000 in
/-- What was laid is read. -/
theorem rd_lay {xs rest : List Int} {n : Int} {k : Nat} (hk : Siz k) (h0 : 0 ≤ n) (h1 : n < 256 ^ k) : rd (lay xs n k ++ rest) xs.length k = (n, (lay xs n k).length, 0) := by
  have hl := lay_len xs n k
  unfold rd
  rw [if_neg (by rw [hk.fits]; simp), Int.toNat_natCast, if_neg (by rw [List.length_append]; omega)]
  have e1 : (lay xs n k ++ rest).drop xs.length = List.replicate (gap xs.length k) 0 ++ (byt n k ++ rest) := by
    unfold lay
    rw [List.append_assoc, List.append_assoc, List.drop_left']
    rfl
  have e2 : (lay xs n k ++ rest).drop (xs.length + gap xs.length k) = byt n k ++ rest := by
    rw [← List.drop_drop, e1, List.drop_left']
    simp
  rw [e1, e2, List.take_left' (by simp), if_neg (by simp), List.take_left' (byt_len k n), valL_byt k n h0 h1, hl]
set_option maxRecDepth 100000 in
/-- What was laid, cut. -/
theorem rd_cut {xs rest : List Int} {n : Int} {k c : Nat} (hk : Siz k) (hc : c < (lay xs n k).length) : rd ((lay xs n k ++ rest).take c) xs.length k = (0, xs.length, 6) := by
  have hl := lay_len xs n k
  unfold rd
  rw [if_neg (by rw [hk.fits]; simp), Int.toNat_natCast, if_pos (by rw [List.length_take]; omega)]
set_option maxRecDepth 100000 in
theorem take_lay {xs rest : List Int} {n : Int} {k c : Nat} (hc : (lay xs n k).length ≤ c) : (lay xs n k ++ rest).take c = lay xs n k ++ rest.take (c - (lay xs n k).length) := by
  rw [List.take_append, List.take_of_length_le hc]
def layT (xs ys : List Int) : List Int := lay xs ys.length 4 ++ ys
set_option maxRecDepth 100000 in
theorem layT_len (xs ys : List Int) : (layT xs ys).length = xs.length + gap xs.length 4 + 4 + ys.length := by simp [layT, lay_len]
set_option maxRecDepth 100000 in
theorem rdT_lay {xs ys rest : List Int} (hy : ys.length ≤ 65535) : rdT (layT xs ys ++ rest) xs.length 65535 = (ys, (layT xs ys).length, 0) := by
  have h := rd_lay (xs := xs) (rest := ys ++ rest) (n := ys.length) (k := 4) (.inr (.inr (.inl rfl))) (by omega) (by rw [show (256 : Int) ^ 4 = 4294967296 by decide]; omega)
  have e : layT xs ys ++ rest = lay xs ys.length 4 ++ (ys ++ rest) := by simp [layT]
  have h' : rd (lay xs ys.length 4 ++ (ys ++ rest)) xs.length 4 = (↑ys.length, (lay xs ys.length 4).length, 0) := h
  unfold rdT
  rw [e, h', if_neg (by simp), if_neg (by simp; omega), if_neg (by simp; omega)]
  simp only [Int.toNat_natCast, List.drop_left', List.take_left', layT, List.length_append]

/-- An item: a number of a size, or a text. -/
structure It where
  t : Bool
  n : Int
  s : Int
  a : Option Addr
  c : Nat
  x : List Int
def ItOk (y : It) : Prop := (0 ≤ y.n ∧ y.n ≤ 18446744073709551615) ∧ (-9223372036854775808 ≤ y.s ∧ y.s ≤ 9223372036854775807) ∧ y.x.length ≤ y.c ∧ y.c ≤ 9223372036854775807 ∧ Byt y.x
/-- Is an item laid? -/
def numOk (n s : Int) : Bool := fits s && decide (n < 256 ^ s.toNat)
def good (y : It) : Bool := if y.t then decide (y.x.length ≤ 65535) else numOk y.n y.s
def step (xs : List Int) (y : It) : List Int := if good y then (if y.t then layT xs y.x else lay xs y.n y.s.toNat) else xs
def allL (xs : List Int) (l : List It) : List Int := l.foldl step xs
set_option maxRecDepth 100000 in
theorem allL_succ {xs : List Int} {l : List It} {i : Nat} {y : It} (h : l[i]? = some y) : allL xs (l.take (i + 1)) = step (allL xs (l.take i)) y := by
  unfold allL
  rw [List.take_add_one, h, Option.toList_some, List.foldl_append]; rfl
set_option maxRecDepth 100000 in
theorem allL_good : ∀ (l : List It) (xs : List Int), allL xs l = allL xs (l.filter good)
  | [], _ => rfl
  | y :: l, xs => by
    unfold allL
    rw [List.foldl_cons, List.filter_cons]
    by_cases h : good y = true
    · rw [if_pos h, List.foldl_cons]; exact allL_good l _
    · rw [if_neg h]
      have : step xs y = xs := by unfold step; rw [if_neg h]
      rw [this]; exact allL_good l _
set_option maxRecDepth 100000 in
theorem step_more (xs : List Int) (y : It) : ∃ r, step xs y = xs ++ r := by
  unfold step
  split
  · split
    · exact ⟨_, by unfold layT lay; rw [List.append_assoc, List.append_assoc]⟩
    · exact ⟨_, by unfold lay; rw [List.append_assoc]⟩
  · exact ⟨[], by simp⟩
set_option maxRecDepth 100000 in
theorem allL_more : ∀ (l : List It) (xs : List Int), ∃ r, allL xs l = xs ++ r
  | [], xs => ⟨[], by simp [allL]⟩
  | y :: l, xs => by
    obtain ⟨r, hr⟩ := step_more xs y
    obtain ⟨q, hq⟩ := allL_more l (step xs y)
    exact ⟨r ++ q, by show allL (step xs y) l = _; rw [hq, hr, List.append_assoc]⟩
set_option maxRecDepth 100000 in
/-- All of a row, parted at an item. -/
theorem allL_part {l : List It} {i : Nat} {y : It} (h : l[i]? = some y) : ∃ r, allL [] l = step (allL [] (l.take i)) y ++ r := by
  obtain ⟨r, hr⟩ := allL_more (l.drop (i + 1)) (allL [] (l.take (i + 1)))
  refine ⟨r, ?_⟩
  rw [← allL_succ h, ← hr]
  unfold allL
  rw [← List.foldl_append, List.take_append_drop]
set_option maxRecDepth 100000 in
theorem step_len {xs : List Int} {y : It} (h : y.x.length ≤ 70000) : (step xs y).length ≤ xs.length + 70010 := by
  unfold step
  split
  · split
    · rw [layT_len]
      have := gap_lt (n := xs.length) (k := 4) (.inr (.inr (.inl rfl)))
      omega
    · rename_i hg ht
      have hn : numOk y.n y.s = true := by unfold good at hg; rw [if_neg ht] at hg; exact hg
      unfold numOk at hn
      simp only [Bool.and_eq_true] at hn
      obtain ⟨k, hs, hk⟩ := fits_nat hn.1
      rw [lay_len, hs, Int.toNat_natCast]
      have := gap_lt (n := xs.length) hk
      rcases hk with rfl | rfl | rfl | rfl <;> omega
  · omega
end Go.Proofs.YtgfimkeopohjaaaDoor
