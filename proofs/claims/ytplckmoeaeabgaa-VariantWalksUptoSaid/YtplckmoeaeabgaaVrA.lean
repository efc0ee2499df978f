/-
  A value that may be comes back out of its form.
-/
import Derived.Test.YtplckmoeaeabgaaVrM
namespace Go.Proofs.Ytplckmoeaeabgaa

set_option maxRecDepth 100000 in
theorem rdT_layM {xs ys rest : List Int} {m : Int} (hy : ys.length ≤ 65535) (hm : (ys.length : Int) ≤ m) : rdT (layT xs ys ++ rest) xs.length m = (ys, (layT xs ys).length, 0) := by
  have h := rd_lay (xs := xs) (rest := ys ++ rest) (n := ys.length) (k := 4) (.inr (.inr (.inl rfl))) (by omega) (by rw [show (256 : Int) ^ 4 = 4294967296 by decide]; omega)
  have e : layT xs ys ++ rest = lay xs ys.length 4 ++ (ys ++ rest) := by simp [layT]
  have h' : rd (lay xs ys.length 4 ++ (ys ++ rest)) xs.length 4 = (↑ys.length, (lay xs ys.length 4).length, 0) := h
  unfold rdT
  rw [e, h', if_neg (by simp), if_neg (by simp only; omega), if_neg (by simp; omega)]
  simp only [Int.toNat_natCast, List.drop_left', List.take_left', layT, List.length_append]
set_option maxRecDepth 100000 in
theorem rd_lay1 {xs rest : List Int} {n : Int} (h0 : 0 ≤ n) (h1 : n ≤ 255) : rd (lay xs n 1 ++ rest) xs.length 1 = (n, (lay xs n 1).length, 0) :=
  rd_lay (k := 1) (.inl rfl) h0 (by rw [show (256 : Int) ^ 1 = 256 by decide]; omega)
set_option maxRecDepth 100000 in
theorem rd_lay4 {xs rest : List Int} {n : Int} (h0 : 0 ≤ n) (h1 : n ≤ 4294967295) : rd (lay xs n 4 ++ rest) xs.length 4 = (n, (lay xs n 4).length, 0) :=
  rd_lay (k := 4) (.inr (.inr (.inl rfl))) h0 (by rw [show (256 : Int) ^ 4 = 4294967296 by decide]; omega)
set_option maxRecDepth 100000 in
theorem rd_lay8 {xs rest : List Int} {n : Int} (h0 : 0 ≤ n) (h1 : n ≤ 18446744073709551615) : rd (lay xs n 8 ++ rest) xs.length 8 = (n, (lay xs n 8).length, 0) :=
  rd_lay (k := 8) (.inr (.inr (.inr rfl))) h0 (by rw [show (256 : Int) ^ 8 = 18446744073709551616 by decide]; omega)
set_option maxRecDepth 100000 in
theorem form_cases {k n : Int} {s : List Int} {l : List Vr} (h : formV (.mk k n s l) = true) :
    (k = 0 ∧ n = 0 ∧ s = [] ∧ l = []) ∨ (k = 1 ∧ (n = 0 ∨ n = 1) ∧ s = [] ∧ l = []) ∨ (k = 2 ∧ (-2147483648 ≤ n ∧ n ≤ 2147483647) ∧ s = [] ∧ l = []) ∨ ((k = 3 ∨ k = 5) ∧ s = [] ∧ l = []) ∨ (k = 4 ∧ n = 0 ∧ l = []) ∨ (k = 6 ∧ n = 0 ∧ s = []) := by
  change formK k n s l = true at h
  unfold formK at h
  by_cases a0 : k = 0
  · rw [if_pos a0] at h
    simp only [Bool.and_eq_true, decide_eq_true_eq, List.isEmpty_iff] at h
    exact .inl ⟨a0, h.1.1, h.1.2, h.2⟩
  rw [if_neg a0] at h
  by_cases a1 : k = 1
  · rw [if_pos a1] at h
    simp only [Bool.and_eq_true, Bool.or_eq_true, decide_eq_true_eq, List.isEmpty_iff] at h
    exact .inr (.inl ⟨a1, h.1.1, h.1.2, h.2⟩)
  rw [if_neg a1] at h
  by_cases a2 : k = 2
  · rw [if_pos a2] at h
    simp only [Bool.and_eq_true, decide_eq_true_eq, List.isEmpty_iff] at h
    exact .inr (.inr (.inl ⟨a2, h.1.1, h.1.2, h.2⟩))
  rw [if_neg a2] at h
  by_cases a3 : k = 3 ∨ k = 5
  · rw [if_pos a3] at h
    simp only [Bool.and_eq_true, List.isEmpty_iff] at h
    exact .inr (.inr (.inr (.inl ⟨a3, h.1, h.2⟩)))
  rw [if_neg a3] at h
  by_cases a4 : k = 4
  · rw [if_pos a4] at h
    simp only [Bool.and_eq_true, decide_eq_true_eq, List.isEmpty_iff] at h
    exact .inr (.inr (.inr (.inr (.inl ⟨a4, h.1, h.2⟩))))
  rw [if_neg a4] at h
  by_cases a6 : k = 6
  · rw [if_pos a6] at h
    simp only [Bool.and_eq_true, decide_eq_true_eq, List.isEmpty_iff] at h
    exact .inr (.inr (.inr (.inr (.inr ⟨a6, h.1, h.2⟩))))
  rw [if_neg a6] at h
  cases h
set_option maxRecDepth 100000 in
theorem form_none : formV (.mk 0 0 [] []) = true := rfl
set_option maxRecDepth 100000 in
theorem rdL_enc (m : Nat) (ih : ∀ (out : List Int) (v : Vr) (rest : List Int), chk m v = 0 → okV m v → rdVr m (encV m out v ++ rest) out.length = (v, (encV m out v).length, 0)) :
    ∀ (l : List Vr) (o rest : List Int) (acc : List Vr), (∀ x ∈ l, chk m x = 0 ∧ okV m x) → rdL (rdVr m (l.foldl (encV m) o ++ rest)) l.length o.length acc = (acc ++ l, (l.foldl (encV m) o).length, 0)
  | [], o, rest, acc, _ => by simp [rdL]
  | x :: l, o, rest, acc, h => by
    have hx := h x (by simp)
    obtain ⟨r, hr⟩ := fold_more (encV_more m) l (encV m o x)
    have h1 : rdVr m ((x :: l).foldl (encV m) o ++ rest) o.length = (x, (encV m o x).length, 0) := by
      rw [List.foldl_cons, hr, List.append_assoc]
      exact ih o x (r ++ rest) hx.1 hx.2
    have h2 := rdL_enc m ih l (encV m o x) rest (acc ++ [x]) (fun y hy => h y (by simp [hy]))
    rw [List.length_cons]
    unfold rdL
    rw [h1, if_neg (by simp)]
    rw [List.foldl_cons]
    simp only
    rw [h2]; simp
set_option maxRecDepth 100000 in
theorem rdVr_enc : ∀ (m : Nat) (out : List Int) (v : Vr) (rest : List Int), chk m v = 0 → okV m v → rdVr m (encV m out v ++ rest) out.length = (v, (encV m out v).length, 0)
  | 0, _, _, _, h, _ => by cases h
  | m + 1, out, v, rest, h, hok => by
    obtain ⟨hf, hs, hl, hp⟩ := chk_zero h
    obtain ⟨k, n, s, l⟩ := v
    obtain ⟨⟨hn0, hn1⟩, hby, hokl⟩ := hok
    simp only [Vr.n, Vr.s, Vr.l] at hf hs hl hp hn0 hn1 hby hokl
    have h1 : ∀ (k : Int) r, 0 ≤ k → k ≤ 255 → rd (lay out k 1 ++ r) out.length 1 = (k, (lay out k 1).length, 0) := fun k r a b => rd_lay1 a b
    rcases form_cases hf with ⟨rfl, rfl, rfl, rfl⟩ | ⟨rfl, hn, rfl, rfl⟩ | ⟨rfl, hn, rfl, rfl⟩ | ⟨rfl | rfl, hs0, hl0⟩ | ⟨rfl, rfl, rfl⟩ | ⟨rfl, rfl, rfl⟩
    · have e : encV (m + 1) out (.mk 0 0 [] []) = lay out 0 1 := by simp [encV, Vr.k]
      rw [e]
      unfold rdVr
      rw [h1 0 _ (by omega) (by omega)]
      dsimp only
      rw [if_neg (by decide), if_pos rfl]; rfl
    · have e : encV (m + 1) out (.mk 1 n [] []) = lay (lay out 1 1) n 1 := by simp [encV, Vr.k, Vr.n]
      rw [e]
      obtain ⟨r, hr⟩ := lay_more (lay out 1 1) n 1
      have h1' : rd (lay (lay out 1 1) n 1 ++ rest) out.length 1 = (1, (lay out 1 1).length, 0) := by rw [hr, List.append_assoc]; exact h1 1 _ (by omega) (by omega)
      have h2 : rd (lay (lay out 1 1) n 1 ++ rest) (lay out 1 1).length (sizK 1) = (n, (lay (lay out 1 1) n 1).length, 0) := rd_lay1 (by omega) (by omega)
      unfold rdVr
      rw [h1']
      dsimp only
      rw [if_neg (by decide), if_neg (by decide), if_pos (by decide), h2]
      dsimp only
      rw [if_neg (by decide), if_neg (by omega)]; rfl
    · have e : encV (m + 1) out (.mk 2 n [] []) = lay (lay out 2 1) (n % 4294967296) 4 := by simp [encV, Vr.k, Vr.n]
      rw [e]
      obtain ⟨r, hr⟩ := lay_more (lay out 2 1) (n % 4294967296) 4
      have h1' : rd (lay (lay out 2 1) (n % 4294967296) 4 ++ rest) out.length 1 = (2, (lay out 2 1).length, 0) := by rw [hr, List.append_assoc]; exact h1 2 _ (by omega) (by omega)
      have h2 : rd (lay (lay out 2 1) (n % 4294967296) 4 ++ rest) (lay out 2 1).length (sizK 2) = (n % 4294967296, (lay (lay out 2 1) (n % 4294967296) 4).length, 0) := rd_lay4 (by omega) (by omega)
      have hnk : numK 2 (n % 4294967296) = n := by unfold numK; rw [if_pos rfl]; split <;> omega
      unfold rdVr
      rw [h1']
      dsimp only
      rw [if_neg (by decide), if_neg (by decide), if_pos (by decide), h2]
      dsimp only
      rw [if_neg (by decide), if_neg (by simp), hnk]
    · obtain ⟨rfl, rfl⟩ : s = [] ∧ l = [] := ⟨hs0, hl0⟩
      have e : encV (m + 1) out (.mk 3 n [] []) = lay (lay out 3 1) (n % 18446744073709551616) 8 := by simp [encV, Vr.k, Vr.n]
      rw [e]
      obtain ⟨r, hr⟩ := lay_more (lay out 3 1) (n % 18446744073709551616) 8
      have h1' : rd (lay (lay out 3 1) (n % 18446744073709551616) 8 ++ rest) out.length 1 = (3, (lay out 3 1).length, 0) := by rw [hr, List.append_assoc]; exact h1 3 _ (by omega) (by omega)
      have h2 : rd (lay (lay out 3 1) (n % 18446744073709551616) 8 ++ rest) (lay out 3 1).length (sizK 3) = (n % 18446744073709551616, (lay (lay out 3 1) (n % 18446744073709551616) 8).length, 0) := rd_lay8 (by omega) (by omega)
      have hnk : numK 3 (n % 18446744073709551616) = n := by unfold numK; rw [if_neg (by decide), if_neg (by decide)]; split <;> omega
      unfold rdVr
      rw [h1']
      dsimp only
      rw [if_neg (by decide), if_neg (by decide), if_pos (by decide), h2]
      dsimp only
      rw [if_neg (by decide), if_neg (by simp), hnk]
    · obtain ⟨rfl, rfl⟩ : s = [] ∧ l = [] := ⟨hs0, hl0⟩
      have e : encV (m + 1) out (.mk 5 n [] []) = lay (lay out 5 1) (n % 18446744073709551616) 8 := by simp [encV, Vr.k, Vr.n]
      rw [e]
      obtain ⟨r, hr⟩ := lay_more (lay out 5 1) (n % 18446744073709551616) 8
      have h1' : rd (lay (lay out 5 1) (n % 18446744073709551616) 8 ++ rest) out.length 1 = (5, (lay out 5 1).length, 0) := by rw [hr, List.append_assoc]; exact h1 5 _ (by omega) (by omega)
      have h2 : rd (lay (lay out 5 1) (n % 18446744073709551616) 8 ++ rest) (lay out 5 1).length (sizK 5) = (n % 18446744073709551616, (lay (lay out 5 1) (n % 18446744073709551616) 8).length, 0) := rd_lay8 (by omega) (by omega)
      have hnk : numK 5 (n % 18446744073709551616) = n := by unfold numK; rw [if_neg (by decide), if_neg (by decide)]; split <;> omega
      unfold rdVr
      rw [h1']
      dsimp only
      rw [if_neg (by decide), if_neg (by decide), if_pos (by decide), h2]
      dsimp only
      rw [if_neg (by decide), if_neg (by simp), hnk]
    · have e : encV (m + 1) out (.mk 4 0 s []) = layT (lay out 4 1) s := by simp [encV, Vr.k, Vr.s]
      rw [e]
      obtain ⟨r, hr⟩ := layT_more (lay out 4 1) s
      have h1' : rd (layT (lay out 4 1) s ++ rest) out.length 1 = (4, (lay out 4 1).length, 0) := by rw [hr, List.append_assoc]; exact h1 4 _ (by omega) (by omega)
      have h2 : rdT (layT (lay out 4 1) s ++ rest) (lay out 4 1).length 256 = (s, (layT (lay out 4 1) s).length, 0) := rdT_layM (by omega) (by omega)
      unfold rdVr
      rw [h1']
      dsimp only
      rw [if_neg (by decide), if_neg (by decide), if_neg (by decide), if_pos rfl, h2]
      dsimp only
      rw [if_neg (by decide)]
    · have e : encV (m + 1) out (.mk 6 0 [] l) = l.foldl (encV m) (lay (lay out 6 1) l.length 4) := by simp [encV, Vr.k, Vr.l]
      rw [e]
      obtain ⟨r, hr⟩ := fold_more (encV_more m) l (lay (lay out 6 1) l.length 4)
      obtain ⟨r2, hr2⟩ := lay_more (lay out 6 1) l.length 4
      have h1' : rd (l.foldl (encV m) (lay (lay out 6 1) l.length 4) ++ rest) out.length 1 = (6, (lay out 6 1).length, 0) := by rw [hr, hr2, List.append_assoc, List.append_assoc]; exact h1 6 _ (by omega) (by omega)
      have h2 : rd (l.foldl (encV m) (lay (lay out 6 1) l.length 4) ++ rest) (lay out 6 1).length 4 = ((l.length : Int), (lay (lay out 6 1) l.length 4).length, 0) := by
        rw [hr, List.append_assoc]; exact rd_lay4 (by omega) (by omega)
      have h3 := rdL_enc m (rdVr_enc m) l (lay (lay out 6 1) l.length 4) rest [] (fun x hx => ⟨hp x hx, hokl x hx⟩)
      unfold rdVr
      rw [h1']
      dsimp only
      rw [if_neg (by decide), if_neg (by decide), if_neg (by decide), if_neg (by decide), if_pos rfl, h2]
      dsimp only
      rw [if_neg (by decide), if_neg (by omega), Int.toNat_natCast, h3]
      dsimp only
      rw [if_neg (by decide), List.nil_append]
set_option maxRecDepth 100000 in
/-- Two values that may be have one form just if they are one. -/
theorem enc_inj {m : Nat} {a b : Vr} (ha : chk m a = 0) (hb : chk m b = 0) (oa : okV m a) (ob : okV m b) (h : encV m [] a = encV m [] b) : a = b := by
  have h1 := rdVr_enc m [] a [] ha oa
  have h2 := rdVr_enc m [] b [] hb ob
  rw [List.append_nil] at h1 h2
  rw [h, h2] at h1
  exact (congrArg Prod.fst h1).symm
end Go.Proofs.Ytplckmoeaeabgaa
