/-
  The contract of variant.layHead.
-/
import Derived.Test.YtplckmoeaeabgaaVpK
import Derived.Test.YtplckmoeaeabgaaVrE
import Derived.Test.YtplckmoeaeabgaaWrT
namespace Go.Proofs.Ytplckmoeaeabgaa
open Go Go.ChangeShapes Go.WideShapes Go.ChangeAt Go.RowKit

/-- A value's form without its parts. -/
def headV (out : List Int) (v : Vr) : List Int :=
  if v.k = 1 then lay (lay out v.k 1) v.n 1
  else if v.k = 2 then lay (lay out v.k 1) (v.n % 4294967296) 4
  else if v.k = 3 ∨ v.k = 5 then lay (lay out v.k 1) (v.n % 18446744073709551616) 8
  else if v.k = 4 then layT (lay out v.k 1) v.s
  else if v.k = 6 then lay (lay out v.k 1) v.l.length 4
  else lay out v.k 1
theorem WrTo.pre {w w1 w2 : World} {p : Nat} {v v2 : Value} {xs : List Int} (hf : Fr (fun _ => False) w w1) (k : WrTo w1 p v w2 v2 xs) : WrTo w p v w2 v2 xs :=
  ⟨k.wr, (hf.mono (fun _ h => h.elim)).trans k.fr (fun j hj _ => hj), fun j hj => by
    rcases k.own j hj with h1 | h1
    · exact .inl h1
    · exact .inr (Nat.le_trans hf.size h1)⟩
theorem WrTo.heap {w w' : World} {p : Nat} {v v' : Value} {xs ys : List Int} (h : WrW w p v ys) (k : WrTo w p v w' v' xs) {b t : Nat} {cs : Array Value} {fz : Nat × Nat} (hb : w.heap[b]? = some (.cells cs t fz)) (ht : t ≠ 75) (ht2 : t ≠ 5) : w'.heap[b]? = some (.cells cs t fz) := by
  rw [k.fr.block b (lt_of_heap hb) (fun hj => ?_)]
  · exact hb
  · rcases hj with rfl | hj
    · rw [h.hp] at hb; cases hb; exact ht rfl
    · rcases h.row.2 with ⟨rfl, _⟩ | ⟨g, cap, cur, rfl, _, hgb, _⟩
      · simp [Value.ownBlock] at hj
      · obtain rfl : g = b := by simpa [Value.ownBlock] using hj
        rw [hgb] at hb; cases hb; exact ht2 rfl
theorem ck_zero {d : Int} {v : Vr} (h : ckV d v = 0) : formV v = true ∧ v.s.length ≤ 256 ∧ v.l.length ≤ 64 := by
  unfold ckV at h
  by_cases h0 : 8 < d
  · rw [if_pos h0] at h; cases h
  · rw [if_neg h0] at h
    by_cases h1 : formV v = false
    · rw [if_pos h1] at h; cases h
    · rw [if_neg h1] at h
      by_cases h2 : 256 < v.s.length ∨ 64 < v.l.length
      · rw [if_pos h2] at h; cases h
      · exact ⟨by simpa using h1, by omega, by omega⟩
set_option maxHeartbeats 4000000 in
set_option maxRecDepth 100000 in
theorem layHead_any (w : World) (p : Nat) (wv : Value) (xs : List Int) (v : Vr) (a : Option Addr) (c : Nat) (h : WrW w p wv xs) (hck : formV v = true) (hs256 : v.s.length ≤ 256) (hl64 : v.l.length ≤ 64) (hby : Byt v.s) (hn : -9223372036854775808 ≤ v.n ∧ v.n ≤ 9223372036854775807) (hl : xs.length ≤ 80000000000000) :
    Calls Try.prog 31 #[.pointer (some ⟨p, 0, none⟩), .agg #[.int .i64 v.k, .int .i64 v.n, .string (strI v.s), .slice a v.l.length c]] w (LayPost w p wv (headV xs v) (.returned (.tuple #[]))) := by
  obtain ⟨k, n, s, l⟩ := v
  simp only [Vr.k, Vr.n, Vr.s, Vr.l] at *
  have HCASE := hid (form_cases hck)
  obtain ⟨L, hL⟩ : ∃ L, L = l.length := ⟨_, rfl⟩
  rw [← hL] at hl64 ⊢
  have HL := hid hL
  have hkr : 0 ≤ k ∧ k ≤ 6 := by rcases HCASE.out with h | h | h | h | h | h <;> omega
  have hwk : IntKind.u64.wrap k = k := IntWalk.u64_in _ ⟨by omega, by omega⟩
  have hf1 : ∀ o, Fr (fun _ => False) w (w.alloc o) := fun o => frA w o
  have HW1 := hid (fun o => h.fr (hf1 o) (fun h => h) (fun _ _ h => h))
  have HN1 := hid (fun o => Num_any (w.alloc o) p wv xs k 1 (HW1.out o) hkr.1 (by omega))
  have HF1 := hid hf1
  have hok1 : numOk k 1 = true := (numOk_nat (n := k) (k := 1) (.inl rfl)).trans (by simp; omega)
  have HOK1 := hid hok1
  have hl1 : (lay xs k 1).length ≤ 80000000000010 := by rw [lay_len]; have := gap_lt (n := xs.length) (k := 1) (.inl rfl); omega
  have HL1 := hid hl1
  have HBX := hid (fun o => heap_alloc_new w o)
  have HS := hid hby
  have hsl : s.length ≤ 256 := hs256
  clear hck hL h hf1 hok1 hkr hl1 hby hs256
  obtain ⟨bs, hbs⟩ : ∃ bs, bs = strI s := ⟨_, rfl⟩
  rw [← hbs]
  have HBS := hid hbs
  clear hbs
  go_enter Try.func31, Try.ntmps31
  go_wp2_with fail
  refine (HN1.out _).mono ?_
  rintro e w2 ⟨rfl, v2, hto2⟩
  rw [HOK1.out, if_pos rfl] at hto2
  have hx2 := hto2.heap (HW1.out _) (HBX.out _) (by decide) (by decide)
  have HT2 := hid (show WrTo w p wv w2 v2 (lay xs k 1) from hto2.pre (HF1.out _))
  obtain ⟨bx, hbq⟩ : ∃ bx, bx = w.heap.size := ⟨_, rfl⟩
  rw [← hbq] at hx2 ⊢
  obtain ⟨c0, c1, c2, c3⟩ := cell4 hx2
  have HX2 := hid hx2
  clear hto2 hbq hx2 HW1 HF1
  have HT := hid True.intro
  rcases HCASE.out with ⟨rfl, rfl, rfl, rfl⟩ | ⟨rfl, hn1, rfl, rfl⟩ | ⟨rfl, hn2, rfl, rfl⟩ | ⟨hk35, rfl, rfl⟩ | ⟨rfl, rfl, rfl⟩ | ⟨rfl, rfl, rfl⟩
  · have HE := hid (show headV xs (.mk 0 0 [] []) = lay xs 0 1 by simp [headV, Vr.k])
    go_wp2
    refine bodyPost_end (results_none rfl _ _ _) rfl ?_
    exact ⟨rfl, v2, by rw [HE.out]; exact HT2.out⟩
  · have HE := hid (show headV xs (.mk 1 n [] []) = lay (lay xs 1 1) n 1 by simp [headV, Vr.k, Vr.n])
    have hw : IntKind.u64.wrap n = n := IntWalk.u64_in _ ⟨by omega, by omega⟩
    have HN := hid (Num_any w2 p v2 (lay xs 1 1) n 1 HT2.out.wr (by omega) (by have := HL1.out; omega))
    have hok : numOk n 1 = true := (numOk_nat (n := n) (k := 1) (.inl rfl)).trans (by simp; omega)
    have HOK := hid hok
    clear hok HCASE HT
    go_wp2_with fail
    refine HN.out.mono ?_
    rintro e w3 ⟨rfl, v3, hto3⟩
    rw [HOK.out, if_pos rfl] at hto3
    have HT3 := hid (HT2.out.trans hto3)
    clear hto3
    go_wp2
    refine bodyPost_end (results_none rfl _ _ _) rfl ?_
    exact ⟨rfl, v3, by rw [HE.out]; exact HT3.out⟩
  · have HE := hid (show headV xs (.mk 2 n [] []) = lay (lay xs 2 1) (n % 4294967296) 4 by simp [headV, Vr.k, Vr.n])
    have hw : IntKind.u32.wrap n = n % 4294967296 := by simp [IntKind.wrap, IntKind.bits, IntKind.signed]
    obtain ⟨z, hz⟩ : ∃ z, z = n % 4294967296 := ⟨_, rfl⟩
    rw [← hz] at hw HE
    have hz0 : 0 ≤ z := by omega
    have hz1 : z ≤ 4294967295 := by omega
    have hw2 : IntKind.u64.wrap z = z := IntWalk.u64_in _ ⟨by omega, by omega⟩
    clear hz
    have HN := hid (Num_any w2 p v2 (lay xs 2 1) z 4 HT2.out.wr (by omega) (by have := HL1.out; omega))
    have hok : numOk z 4 = true := (numOk_nat (n := z) (k := 4) (.inr (.inr (.inl rfl)))).trans (by simp; omega)
    have HOK := hid hok
    clear hok HCASE HT
    go_wp2_with fail
    refine HN.out.mono ?_
    rintro e w3 ⟨rfl, v3, hto3⟩
    rw [HOK.out, if_pos rfl] at hto3
    have HT3 := hid (HT2.out.trans hto3)
    clear hto3
    go_wp2
    refine bodyPost_end (results_none rfl _ _ _) rfl ?_
    exact ⟨rfl, v3, by rw [HE.out]; exact HT3.out⟩
  · have HE := hid (show headV xs (.mk k n [] []) = lay (lay xs k 1) (n % 18446744073709551616) 8 by rcases hk35 with rfl | rfl <;> simp [headV, Vr.k, Vr.n])
    have hw : IntKind.u64.wrap n = n % 18446744073709551616 := wrap_u64_mod n
    obtain ⟨z, hz⟩ : ∃ z, z = n % 18446744073709551616 := ⟨_, rfl⟩
    rw [← hz] at hw HE
    have hz0 : 0 ≤ z := by omega
    have hz1 : z ≤ 18446744073709551615 := by omega
    clear hz
    have HN := hid (Num_any w2 p v2 (lay xs k 1) z 8 HT2.out.wr (by omega) (by have := HL1.out; omega))
    have hok : numOk z 8 = true := (numOk_nat (n := z) (k := 8) (.inr (.inr (.inr rfl)))).trans (by simp; omega)
    have HOK := hid hok
    clear hok HCASE HT
    rcases hk35 with rfl | rfl
    all_goals
      go_wp2_with fail
      refine HN.out.mono ?_
      rintro e w3 ⟨rfl, v3, hto3⟩
      rw [HOK.out, if_pos rfl] at hto3
      have HT3 := hid (HT2.out.trans hto3)
      clear hto3
      go_wp2
      refine bodyPost_end (results_none rfl _ _ _) rfl ?_
      exact ⟨rfl, v3, by rw [HE.out]; exact HT3.out⟩
  · have HE := hid (show headV xs (.mk 4 0 s []) = layT (lay xs 4 1) s by simp [headV, Vr.k, Vr.s])
    obtain ⟨cc, wc, hcv, hbc, hbsc⟩ := conv_bytes w2 s HS.out
    rw [← HBS.out] at hcv
    have hWc : WrW wc p v2 (lay xs 4 1) := HT2.out.wr.fr (Fr.of_below hbc) (fun h => h) (fun _ _ h => h)
    have HN := hid (Text_good wc p v2 (lay xs 4 1) s (some ⟨w2.heap.size, 0, none⟩) s.length cc hWc hbsc rfl (fun h => by cases h)
      (fun b o e => by
        cases e
        have hlt := HT2.out.wr.lt
        refine ⟨by omega, fun hj => ?_⟩
        have := (HT2.out.wr.row.lt _ hj).2
        omega) (by have := HL1.out; omega) (by omega))
    have HF := hid (Fr.of_below (fp := fun _ => False) hbc)
    generalize s.length = sl at *
    clear HCASE HT hbsc hbc hWc
    go_wp2_with fail
    refine HN.out.mono ?_
    rintro e w3 ⟨rfl, v3, hto3⟩
    have HT3 := hid (HT2.out.trans (hto3.pre HF.out))
    clear hto3
    go_wp2
    refine bodyPost_end (results_none rfl _ _ _) rfl ?_
    exact ⟨rfl, v3, by rw [HE.out]; exact HT3.out⟩
  · have HE := hid (show headV xs (.mk 6 0 [] l) = lay (lay xs 6 1) (L : Int) 4 by rw [HL.out]; simp [headV, Vr.k, Vr.l])
    have hw : IntKind.u64.wrap (L : Int) = L := IntWalk.u64_in _ ⟨by omega, by omega⟩
    have HN := hid (Num_any w2 p v2 (lay xs 6 1) (L : Int) 4 HT2.out.wr (by omega) (by have := HL1.out; omega))
    have hok : numOk (L : Int) 4 = true := (numOk_nat (n := (L : Int)) (k := 4) (.inr (.inr (.inl rfl)))).trans (by simp; omega)
    have HOK := hid hok
    clear hok HCASE HT
    go_wp2_with fail
    refine HN.out.mono ?_
    rintro e w3 ⟨rfl, v3, hto3⟩
    rw [HOK.out, if_pos rfl] at hto3
    have HT3 := hid (HT2.out.trans hto3)
    clear hto3
    go_wp2
    refine bodyPost_end (results_none rfl _ _ _) rfl ?_
    exact ⟨rfl, v3, by rw [HE.out]; exact HT3.out⟩
end Go.Proofs.Ytplckmoeaeabgaa
