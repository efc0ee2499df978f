/-
  A value that was read may be, and has the form that it was read of.
-/
import Derived.Test.YtplckmoeaeabgaaVrA
namespace Go.Proofs.Ytplckmoeaeabgaa

set_option maxRecDepth 100000 in
theorem byt_valL : ∀ xs : List Int, Byt xs → byt (valL xs) xs.length = xs
  | [], _ => rfl
  | x :: xs, h => by
    have hx := h x (by simp)
    have ih := byt_valL xs (fun y hy => h y (by simp [hy]))
    rw [List.length_cons, valL, byt]
    have e1 : (x + 256 * valL xs) % 256 = x := by omega
    have e2 : (x + 256 * valL xs) / 256 = valL xs := by omega
    rw [e1, e2, ih]
set_option maxRecDepth 100000 in
theorem rep_all : ∀ {xs : List Int}, xs.all (· == 0) = true → xs = List.replicate xs.length 0
  | [], _ => rfl
  | x :: xs, h => by
    rw [List.all_cons, Bool.and_eq_true] at h
    have ih := rep_all h.2
    have hx : x = 0 := by simpa using h.1
    rw [List.length_cons, List.replicate_succ, ← ih, hx]
set_option maxRecDepth 100000 in
theorem rd_inv {b : List Int} {a k : Nat} {s n : Int} (hb : Byt b) (ha : a ≤ b.length) (h : rd b a s = (n, k, 0)) : ∃ sz : Nat, s = sz ∧ Siz sz ∧ lay (b.take a) n sz = b.take k ∧ a < k ∧ k ≤ b.length ∧ 0 ≤ n ∧ n < 256 ^ sz := by
  unfold rd at h
  by_cases h1 : fits s = false
  · rw [if_pos h1] at h
    have := congrArg (fun x => x.2.2) h
    simp at this
  · rw [if_neg h1] at h
    obtain ⟨sz, rfl, hs⟩ := fits_nat (by simpa using h1)
    rw [Int.toNat_natCast] at h
    by_cases h2 : b.length < a + gap a sz + sz
    · rw [if_pos h2] at h
      have := congrArg (fun x => x.2.2) h
      simp at this
    · rw [if_neg h2] at h
      by_cases h3 : ((b.drop a).take (gap a sz)).all (· == 0) = false
      · rw [if_pos h3] at h
        have := congrArg (fun x => x.2.2) h
        simp at this
      · rw [if_neg h3] at h
        have en := congrArg (fun x => x.1) h
        have ek := congrArg (fun x => x.2.1) h
        simp only at en ek
        have hl : ((b.drop (a + gap a sz)).take sz).length = sz := by rw [List.length_take, List.length_drop]; omega
        have hpb : Byt ((b.drop (a + gap a sz)).take sz) := hb.part _ _
        have hz : (b.drop a).take (gap a sz) = List.replicate (gap a sz) 0 := by
          have h4 := rep_all (xs := (b.drop a).take (gap a sz)) (by simpa using h3)
          rw [show ((b.drop a).take (gap a sz)).length = gap a sz by rw [List.length_take, List.length_drop]; omega] at h4
          exact h4
        have hbv := byt_valL _ hpb
        rw [hl] at hbv
        have hvp := valL_pos _ hpb
        rw [hl] at hvp
        have hta : (b.take a).length = a := by rw [List.length_take]; omega
        have hsz : 1 ≤ sz := by rcases hs with rfl | rfl | rfl | rfl <;> omega
        refine ⟨sz, rfl, hs, ?_, by omega, by omega, by rw [← en]; exact hvp.1, by rw [← en]; exact hvp.2⟩
        unfold lay
        rw [hta, ← en, hbv, ← ek, List.take_add, List.take_add, hz]
set_option maxRecDepth 100000 in
theorem rdT_inv {b t : List Int} {a k : Nat} {m : Int} (hb : Byt b) (ha : a ≤ b.length) (h : rdT b a m = (t, k, 0)) : layT (b.take a) t = b.take k ∧ a < k ∧ k ≤ b.length ∧ (t.length : Int) ≤ m ∧ Byt t := by
  obtain ⟨q, hq⟩ : ∃ q, q = rd b a 4 := ⟨_, rfl⟩
  unfold rdT at h
  rw [← hq] at h
  obtain ⟨N, j, e⟩ := q
  simp only at h
  by_cases he : e = 0
  · subst he
    rw [if_neg (by simp)] at h
    obtain ⟨sz, hs, _, hlay, haj, hj, hn0, hn1⟩ := rd_inv hb ha hq.symm
    have hs4 : sz = 4 := by omega
    subst hs4
    by_cases hm : m < 0 ∨ m < N
    · rw [if_pos hm] at h
      have := congrArg (fun x => x.2.2) h
      simp at this
    · rw [if_neg hm] at h
      by_cases hsh : (b.length : Int) - j < N
      · rw [if_pos hsh] at h
        have := congrArg (fun x => x.2.2) h
        simp at this
      · rw [if_neg hsh] at h
        have et := congrArg (fun x => x.1) h
        have ek := congrArg (fun x => x.2.1) h
        simp only at et ek
        have htl : t.length = N.toNat := by rw [← et, List.length_take, List.length_drop]; omega
        refine ⟨?_, by omega, by omega, by omega, by rw [← et]; exact hb.part _ _⟩
        unfold layT
        rw [show (t.length : Int) = N by omega, hlay, ← ek, List.take_add, et]
  · rw [if_pos he] at h
    have := congrArg (fun x => x.2.2) h
    simp only at this
    exact absurd this he
set_option maxRecDepth 100000 in
theorem rdL_inv (m : Nat) {b : List Int} (ih : ∀ (a : Nat) (v : Vr) (k : Nat), a ≤ b.length → rdVr m b a = (v, k, 0) → chk m v = 0 ∧ okV m v ∧ a ≤ k ∧ k ≤ b.length ∧ encV m (b.take a) v = b.take k) :
    ∀ (c j : Nat) (acc l : List Vr) (k : Nat), j ≤ b.length → rdL (rdVr m b) c j acc = (l, k, 0) → ∃ l', l = acc ++ l' ∧ l'.length = c ∧ j ≤ k ∧ k ≤ b.length ∧ l'.foldl (encV m) (b.take j) = b.take k ∧ ∀ x ∈ l', chk m x = 0 ∧ okV m x
  | 0, j, acc, l, k, hj, h => by
    simp only [rdL, Prod.mk.injEq] at h
    obtain ⟨rfl, rfl, _⟩ := h
    exact ⟨[], by simp, rfl, Nat.le_refl _, hj, rfl, fun x hx => by simp at hx⟩
  | c + 1, j, acc, l, k, hj, h => by
    unfold rdL at h
    obtain ⟨q, hq⟩ : ∃ q, q = rdVr m b j := ⟨_, rfl⟩
    rw [← hq] at h
    obtain ⟨v, i, e⟩ := q
    simp only at h
    by_cases he : e = 0
    · subst he
      rw [if_neg (by simp)] at h
      obtain ⟨h1, h2, h3, h4, h5⟩ := ih j v i hj hq.symm
      obtain ⟨l', e1, e2, e3, e4, e5, e6⟩ := rdL_inv m ih c i (acc ++ [v]) l k h4 h
      refine ⟨v :: l', by rw [e1]; simp, by simp [e2], by omega, e4, by rw [List.foldl_cons, h5]; exact e5, fun x hx => ?_⟩
      rcases List.mem_cons.1 hx with rfl | hx
      · exact ⟨h1, h2⟩
      · exact e6 x hx
    · rw [if_pos he] at h
      have := congrArg (fun x => x.2.2) h
      simp only at this
      exact absurd this he
set_option maxRecDepth 100000 in
theorem third {α β : Type} {a a' : α} {b b' : β} {e : Int} (he : e ≠ 0) (h : (a, b, e) = (a', b', (0 : Int))) : False := he (congrArg (fun x => x.2.2) h)
set_option maxRecDepth 100000 in
theorem rdVr_inv : ∀ (m : Nat) (b : List Int), Byt b → ∀ (a : Nat) (v : Vr) (k : Nat), a ≤ b.length → rdVr m b a = (v, k, 0) → chk m v = 0 ∧ okV m v ∧ a ≤ k ∧ k ≤ b.length ∧ encV m (b.take a) v = b.take k
  | 0, _, _, _, _, _, _, h => (third (by decide) h).elim
  | m + 1, b, hb, a, v, k, ha, h => by
    obtain ⟨q, hq⟩ : ∃ q, q = rd b a 1 := ⟨_, rfl⟩
    unfold rdVr at h
    rw [← hq] at h
    obtain ⟨K, j, e⟩ := q
    dsimp only at h
    by_cases he : e = 0
    · subst he
      rw [if_neg (by decide)] at h
      obtain ⟨sz, hs, _, hlay, haj, hj, hn0, hn1⟩ := rd_inv hb ha hq.symm
      have hs1 : sz = 1 := by omega
      subst hs1
      by_cases k0 : K = 0
      · subst k0
        rw [if_pos rfl] at h
        simp only [Prod.mk.injEq, and_true] at h
        obtain ⟨rfl, rfl⟩ := h
        refine ⟨chk_mk rfl (by simp [none0, Vr.s]) (by simp [none0, Vr.l]) (fun x hx => by simp [none0, Vr.l] at hx), ⟨by simp [none0, Vr.n], fun x hx => by simp [none0, Vr.s] at hx, fun x hx => by simp [none0, Vr.l] at hx⟩, by omega, hj, ?_⟩
        have e1 : encV (m + 1) (b.take a) none0 = lay (b.take a) 0 1 := by simp [encV, none0, Vr.k]
        rw [e1, hlay]
      · rw [if_neg k0] at h
        by_cases k1 : K = 1 ∨ K = 2 ∨ K = 3 ∨ K = 5
        · rw [if_pos k1] at h
          obtain ⟨q2, hq2⟩ : ∃ q2, q2 = rd b j (sizK K) := ⟨_, rfl⟩
          rw [← hq2] at h
          obtain ⟨n, i, e2⟩ := q2
          dsimp only at h
          by_cases he2 : e2 = 0
          · subst he2
            rw [if_neg (by decide)] at h
            obtain ⟨sz, hs, _, hlay2, hji, hi, hm0, hm1⟩ := rd_inv hb hj hq2.symm
            by_cases hbad : K = 1 ∧ 1 < n
            · rw [if_pos hbad] at h
              exact (third (by decide) h).elim
            · rw [if_neg hbad] at h
              simp only [Prod.mk.injEq, and_true] at h
              obtain ⟨rfl, rfl⟩ := h
              rcases k1 with rfl | rfl | rfl | rfl
              · have hs1 : sz = 1 := by have : sizK 1 = 1 := rfl; omega
                subst hs1
                have hnk : numK 1 n = n := rfl
                rw [hnk]
                refine ⟨chk_mk (by show formK 1 n [] [] = true; have : n = 0 ∨ n = 1 := by omega
                                   rcases this with rfl | rfl <;> rfl) (by simp [Vr.s]) (by simp [Vr.l]) (fun x hx => by simp [Vr.l] at hx), ⟨by simp only [Vr.n]; omega, fun x hx => by simp [Vr.s] at hx, fun x hx => by simp [Vr.l] at hx⟩, by omega, hi, ?_⟩
                have e1 : encV (m + 1) (b.take a) (.mk 1 n [] []) = lay (lay (b.take a) 1 1) n 1 := by simp [encV, Vr.k, Vr.n]
                rw [e1, hlay, hlay2]
              · have hs1 : sz = 4 := by have : sizK 2 = 4 := rfl; omega
                subst hs1
                rw [show (256 : Int) ^ 4 = 4294967296 by decide] at hm1
                have hnk : -2147483648 ≤ numK 2 n ∧ numK 2 n ≤ 2147483647 ∧ numK 2 n % 4294967296 = n := by unfold numK; rw [if_pos rfl]; split <;> omega
                generalize numK 2 n = z at *
                refine ⟨chk_mk (by show formK 2 z [] [] = true; simp [formK]; omega) (by simp [Vr.s]) (by simp [Vr.l]) (fun x hx => by simp [Vr.l] at hx), ⟨by simp only [Vr.n]; omega, fun x hx => by simp [Vr.s] at hx, fun x hx => by simp [Vr.l] at hx⟩, by omega, hi, ?_⟩
                have e1 : encV (m + 1) (b.take a) (.mk 2 z [] []) = lay (lay (b.take a) 2 1) (z % 4294967296) 4 := by simp [encV, Vr.k, Vr.n]
                rw [e1, hlay, hnk.2.2, hlay2]
              · have hs1 : sz = 8 := by have : sizK 3 = 8 := rfl; omega
                subst hs1
                rw [show (256 : Int) ^ 8 = 18446744073709551616 by decide] at hm1
                have hnk : -9223372036854775808 ≤ numK 3 n ∧ numK 3 n ≤ 9223372036854775807 ∧ numK 3 n % 18446744073709551616 = n := by unfold numK; rw [if_neg (by decide), if_neg (by decide)]; split <;> omega
                generalize numK 3 n = z at *
                refine ⟨chk_mk (by show formK 3 z [] [] = true; simp [formK]) (by simp [Vr.s]) (by simp [Vr.l]) (fun x hx => by simp [Vr.l] at hx), ⟨by simp only [Vr.n]; omega, fun x hx => by simp [Vr.s] at hx, fun x hx => by simp [Vr.l] at hx⟩, by omega, hi, ?_⟩
                have e1 : encV (m + 1) (b.take a) (.mk 3 z [] []) = lay (lay (b.take a) 3 1) (z % 18446744073709551616) 8 := by simp [encV, Vr.k, Vr.n]
                rw [e1, hlay, hnk.2.2, hlay2]
              · have hs1 : sz = 8 := by have : sizK 5 = 8 := rfl; omega
                subst hs1
                rw [show (256 : Int) ^ 8 = 18446744073709551616 by decide] at hm1
                have hnk : -9223372036854775808 ≤ numK 5 n ∧ numK 5 n ≤ 9223372036854775807 ∧ numK 5 n % 18446744073709551616 = n := by unfold numK; rw [if_neg (by decide), if_neg (by decide)]; split <;> omega
                generalize numK 5 n = z at *
                refine ⟨chk_mk (by show formK 5 z [] [] = true; simp [formK]) (by simp [Vr.s]) (by simp [Vr.l]) (fun x hx => by simp [Vr.l] at hx), ⟨by simp only [Vr.n]; omega, fun x hx => by simp [Vr.s] at hx, fun x hx => by simp [Vr.l] at hx⟩, by omega, hi, ?_⟩
                have e1 : encV (m + 1) (b.take a) (.mk 5 z [] []) = lay (lay (b.take a) 5 1) (z % 18446744073709551616) 8 := by simp [encV, Vr.k, Vr.n]
                rw [e1, hlay, hnk.2.2, hlay2]
          · rw [if_pos he2] at h
            exact (third he2 h).elim
        · rw [if_neg k1] at h
          by_cases k4 : K = 4
          · subst k4
            rw [if_pos rfl] at h
            obtain ⟨q2, hq2⟩ : ∃ q2, q2 = rdT b j 256 := ⟨_, rfl⟩
            rw [← hq2] at h
            obtain ⟨t, i, e2⟩ := q2
            dsimp only at h
            by_cases he2 : e2 = 0
            · subst he2
              rw [if_neg (by decide)] at h
              obtain ⟨hlay2, hji, hi, htl, htb⟩ := rdT_inv hb hj hq2.symm
              simp only [Prod.mk.injEq, and_true] at h
              obtain ⟨rfl, rfl⟩ := h
              refine ⟨chk_mk rfl (by simp only [Vr.s]; omega) (by simp [Vr.l]) (fun x hx => by simp [Vr.l] at hx), ⟨by simp [Vr.n], htb, fun x hx => by simp [Vr.l] at hx⟩, by omega, hi, ?_⟩
              have e1 : encV (m + 1) (b.take a) (.mk 4 0 t []) = layT (lay (b.take a) 4 1) t := by simp [encV, Vr.k, Vr.s]
              rw [e1, hlay, hlay2]
            · rw [if_pos he2] at h
              exact (third he2 h).elim
          · rw [if_neg k4] at h
            by_cases k6 : K = 6
            · subst k6
              rw [if_pos rfl] at h
              obtain ⟨q2, hq2⟩ : ∃ q2, q2 = rd b j 4 := ⟨_, rfl⟩
              rw [← hq2] at h
              obtain ⟨n, i, e2⟩ := q2
              dsimp only at h
              by_cases he2 : e2 = 0
              · subst he2
                rw [if_neg (by decide)] at h
                obtain ⟨sz, hs, _, hlay2, hji, hi, hm0, hm1⟩ := rd_inv hb hj hq2.symm
                have hs1 : sz = 4 := by omega
                subst hs1
                by_cases hbig : 64 < n
                · rw [if_pos hbig] at h
                  exact (third (by decide) h).elim
                · rw [if_neg hbig] at h
                  obtain ⟨q3, hq3⟩ : ∃ q3, q3 = rdL (rdVr m b) n.toNat i [] := ⟨_, rfl⟩
                  rw [← hq3] at h
                  obtain ⟨l, z, e3⟩ := q3
                  dsimp only at h
                  by_cases he3 : e3 = 0
                  · subst he3
                    rw [if_neg (by decide)] at h
                    obtain ⟨l', e1, e2, e3, e4, e5, e6⟩ := rdL_inv m (rdVr_inv m b hb) n.toNat i [] l z hi hq3.symm
                    rw [List.nil_append] at e1
                    subst e1
                    simp only [Prod.mk.injEq, and_true] at h
                    obtain ⟨rfl, rfl⟩ := h
                    refine ⟨chk_mk rfl (by simp [Vr.s]) (by simp only [Vr.l]; omega) (fun x hx => (e6 x hx).1), ⟨by simp [Vr.n], fun x hx => by simp [Vr.s] at hx, fun x hx => (e6 x hx).2⟩, by omega, e4, ?_⟩
                    have e7 : encV (m + 1) (b.take a) (.mk 6 0 [] l) = l.foldl (encV m) (lay (lay (b.take a) 6 1) l.length 4) := by simp [encV, Vr.k, Vr.l]
                    rw [e7, hlay, show (l.length : Int) = n by omega, hlay2, e5]
                  · rw [if_pos he3] at h
                    exact (third he3 h).elim
              · rw [if_pos he2] at h
                exact (third he2 h).elim
            · rw [if_neg k6] at h
              exact (third (by decide) h).elim
    · rw [if_pos he] at h
      exact (third he h).elim
set_option maxRecDepth 100000 in
/-- What was read to the end has the form that it was read of. -/
theorem dec_enc {m : Nat} {b : List Int} {v : Vr} (hb : Byt b) (h : rdVr m b 0 = (v, b.length, 0)) : chk m v = 0 ∧ okV m v ∧ encV m [] v = b := by
  obtain ⟨h1, h2, _, _, h5⟩ := rdVr_inv m b hb 0 v b.length (Nat.zero_le _) h
  rw [List.take_zero, List.take_length] at h5
  exact ⟨h1, h2, h5⟩
end Go.Proofs.Ytplckmoeaeabgaa
