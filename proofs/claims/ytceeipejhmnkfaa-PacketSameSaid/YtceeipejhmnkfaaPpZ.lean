/-
  The laws of layer 8: what PacketSame comes to.
-/
import Derived.Test.YtceeipejhmnkfaaPpX
import Derived.Test.YtceeipejhmnkfaaPpE
namespace Go.Proofs.Ytceeipejhmnkfaa
open Go Go.ChangeShapes Go.WideShapes Go.ChangeAt Go.RowKit

/-- Of right ones: the same just if their forms are. -/
theorem eqP_form {p q : Pk} (hp : PkOk p) (hq : PkOk q) (hr : rightP p = true) (hs : rightP q = true) : (formP p == formP q) = eqP p q := by
  cases h : eqP p q
  · rw [beq_eq_false_iff_ne]
    intro e
    have h1 := dec_form hp hr
    rw [e, dec_form hq hs] at h1
    cases h1
    rw [eqP_self] at h
    cases h
  · rw [eqP_iff.1 h]; simp
set_option maxRecDepth 100000 in
set_option maxHeartbeats 4000000 in
theorem PacketSame_any (p q : Pk) (ad bd : Option Addr) (c d : Nat) (w : World) (hp : PkOk p) (hq : PkOk q) (hrp : RwO w w.heap.size ad p.rs) (hrq : RwO w w.heap.size bd q.rs) (hc : p.rs.length ≤ c ∧ c ≤ 9223372036854775807) (hd : q.rs.length ≤ d ∧ d ≤ 9223372036854775807) :
    Calls Try.prog 6 #[.agg (pkA p ad c), .agg (pkA q bd d)] w fun e w' => e = .returned (.bool true) ∧ Below w.heap.size w w' := by
  obtain ⟨w1, hw1⟩ : ∃ w1, w1 = (w.alloc (.cells (pkA p ad c) 28)).alloc (.cells (pkA q bd d) 28) := ⟨_, rfl⟩
  have hB : Below w.heap.size w w1 := by rw [hw1]; exact ((Below.refl _ _).alloc (Nat.le_refl _) _).alloc (by simp) _
  have hp1 : InP w1 w.heap.size p ad c := by
    unfold InP
    rw [hw1, heap_alloc_old _ _ (by simp)]; exact heap_alloc_new _ _
  have hq1 : InP w1 (w.heap.size + 1) q bd d := by
    unfold InP
    have h1 := heap_alloc_new (w.alloc (.cells (pkA p ad c) 28)) (.cells (pkA q bd d) 28)
    rw [hw1]
    simpa using h1
  have h16 := hp.ip.len
  have k16 := hq.ip.len
  have c24 := hp1.c24 h16
  have d24 := hq1.c24 k16
  have HA := hid hp1
  have HQ1 := hid hq1
  have HB := hid hB
  have HW := hid hw1
  have HRA := hid (hrp.on hB)
  have HRB := hid (hrq.on hB)
  have HC := hid hc
  have HD := hid hd
  have HP := hid hp
  have HQ := hid hq
  have HAW := hid (fun W => pawake_any W)
  clear hw1 hp1 hq1 hB hrp hrq hc hd hp hq
  by_cases hn : 10 < p.rs.length
  · go_enter Try.func6, Try.ntmps6
    go_upto_region 1 with (fail)
    rw [← HW.out]
    go_wp2_with fail
    refine (HAW.out _).mono ?_
    rintro e w2 ⟨rfl, hb2⟩
    have HB2 := hid (HB.out.trans (hb2.mono HB.out.size))
    clear hb2
    go_wp2
    go_ret
    exact ⟨rfl, HB2.out⟩
  by_cases hm : 10 < q.rs.length
  · go_enter Try.func6, Try.ntmps6
    go_upto_region 1 with (fail)
    rw [← HW.out]
    go_wp2_with fail
    refine (HAW.out _).mono ?_
    rintro e w2 ⟨rfl, hb2⟩
    have HB2 := hid (HB.out.trans (hb2.mono HB.out.size))
    clear hb2
    go_wp2
    go_ret
    exact ⟨rfl, HB2.out⟩
  have HLL := hid (show p.rs.length ≤ 4611686018427387904 ∧ q.rs.length ≤ 4611686018427387904 ∧ p.rs.length ≤ c ∧ q.rs.length ≤ d ∧ c ≤ 9223372036854775807 ∧ d ≤ 9223372036854775807 from ⟨by omega, by omega, HC.out.1, HD.out.1, HC.out.2, HD.out.2⟩)
  have HLP := hid (show p.rs.length ≤ 4611686018427387904 ∧ p.rs.length ≤ 4611686018427387904 ∧ p.rs.length ≤ c ∧ p.rs.length ≤ c ∧ c ≤ 9223372036854775807 ∧ c ≤ 9223372036854775807 from ⟨by omega, by omega, HC.out.1, HC.out.1, HC.out.2, HC.out.2⟩)
  have S1 := hid (same_any p q HP.out HQ.out ad bd c d w1 HRA.out HRB.out HLL.out)
  have S2 := hid (fun W hra hrb => pkSame_any p q HP.out HQ.out ad bd c d W hra hrb HLL.out)
  have S3 := hid (fun W hra => same_any p p HP.out HP.out ad ad c c W hra hra HLP.out)
  have HEQ := hid (fun (h1 : rightP p = true) (h2 : rightP q = true) => eqP_form HP.out HQ.out h1 h2)
  rw [eqP_self] at S3
  generalize eqP p q = z at *
  have HZN : (z != z) = false := by simp
  go_enter Try.func6, Try.ntmps6
  go_upto_region 1 with (fail)
  rw [← HW.out]
  go_wp2_with (first
    | ((with_reducible refine at_op ⟨some 21, _, _, _, _, _⟩ ?_); refine wpList_runW rfl (.agg (pkA p ad c)) (load_p rfl rfl HA.out h16) ?_)
    | ((with_reducible refine at_op ⟨some 22, _, _, _, _, _⟩ ?_); refine wpList_runW rfl (.agg (pkA q bd d)) (load_p rfl rfl HQ1.out k16) ?_)
    | fail)
  refine S1.out.mono ?_
  rintro e w2 ⟨rfl, hb2⟩
  have HA2 := hid (HA.out.below hb2)
  have HQ2 := hid (HQ1.out.below hb2)
  have HRA2 := hid (HRA.out.on hb2)
  have HRB2 := hid (HRB.out.on hb2)
  have HB2 := hid (HB.out.trans (hb2.mono HB.out.size))
  clear hb2 S1 HA HQ1 HRA HRB HB HW c24 d24
  go_wp2_with (first
    | ((with_reducible refine at_op ⟨some 25, _, _, _, _, _⟩ ?_); refine wpList_runW rfl (.agg (pkA p ad c)) (load_p rfl rfl HA2.out h16) ?_)
    | ((with_reducible refine at_op ⟨some 26, _, _, _, _, _⟩ ?_); refine wpList_runW rfl (.agg (pkA q bd d)) (load_p rfl rfl HQ2.out k16) ?_)
    | fail)
  refine (S2.out _ HRA2.out HRB2.out).mono ?_
  rintro e w3 ⟨rfl, hb3⟩
  have HA3 := hid (HA2.out.below hb3)
  have HQ3 := hid (HQ2.out.below hb3)
  have HRA3 := hid (HRA2.out.on hb3)
  have HRB3 := hid (HRB2.out.on hb3)
  have HB3 := hid (HB2.out.trans (hb3.mono HB2.out.size))
  clear hb3 S2 HA2 HQ2 HRA2 HRB2 HB2
  go_wp2_with (first
    | ((with_reducible refine at_op ⟨some 30, _, _, _, _, _⟩ ?_); refine wpList_runW rfl (.agg (pkA p ad c)) (load_p rfl rfl HA3.out h16) ?_)
    | ((with_reducible refine at_op ⟨some 31, _, _, _, _, _⟩ ?_); refine wpList_runW rfl (.agg (pkA p ad c)) (load_p rfl rfl HA3.out h16) ?_)
    | fail)
  refine (S3.out _ HRA3.out).mono ?_
  rintro e w4 ⟨rfl, hb4⟩
  have HA4 := hid (HA3.out.below hb4)
  have HQ4 := hid (HQ3.out.below hb4)
  have HRA4 := hid (HRA3.out.on hb4)
  have HRB4 := hid (HRB3.out.on hb4)
  have HB4 := hid (HB3.out.trans (hb4.mono HB3.out.size))
  clear hb4 S3 HA3 HQ3 HRA3 HRB3 HB3
  go_wp2_with (first
    | ((with_reducible refine at_op ⟨some 36, _, _, _, _, _⟩ ?_); refine wpList_runW rfl (.agg (pkA p ad c)) (load_p rfl rfl HA4.out h16) ?_)
    | fail)
  refine (encode_any p HP.out ad c w4 HRA4.out HC.out).mono ?_
  rintro e w5 hen
  obtain ⟨a5, k5, n5, er5, rfl, hb5, hcase5⟩ : ∃ a5 k5 n5 er5, e = .returned (.tuple #[.slice a5 n5 k5, .int .i64 er5]) ∧ Below w4.heap.size w4 w5 ∧ ((er5 = 0 ∧ rightP p = true ∧ n5 = (formP p).length ∧ Bs w5 w5.heap.size a5 (formP p)) ∨ er5 = 5) := by
    rcases hen with ⟨hr, ⟨a, k, he, hown⟩, hb⟩ | ⟨_, he, hb⟩
    · exact ⟨a, k, _, 0, he, hb, .inl ⟨rfl, hr, rfl, own_bs hown⟩⟩
    · exact ⟨_, _, _, 5, he, hb, .inr rfl⟩
  have HQ5 := hid (HQ4.out.below hb5)
  have HRB5 := hid (HRB4.out.on hb5)
  have HB5 := hid (HB4.out.trans (hb5.mono HB4.out.size))
  have HC5 := hid hcase5
  clear hb5 hen hcase5 HA4 HQ4 HRA4 HRB4 HB4
  go_wp2_with (first
    | ((with_reducible refine at_op ⟨some 41, _, _, _, _, _⟩ ?_); refine wpList_runW rfl (.agg (pkA q bd d)) (load_p rfl rfl HQ5.out k16) ?_)
    | fail)
  refine (encode_any q HQ.out bd d w5 HRB5.out HD.out).mono ?_
  rintro e w6 hen
  obtain ⟨a6, k6, n6, er6, rfl, hb6, hcase6⟩ : ∃ a6 k6 n6 er6, e = .returned (.tuple #[.slice a6 n6 k6, .int .i64 er6]) ∧ Below w5.heap.size w5 w6 ∧ ((er6 = 0 ∧ rightP q = true ∧ n6 = (formP q).length ∧ Bs w6 w6.heap.size a6 (formP q)) ∨ er6 = 5) := by
    rcases hen with ⟨hr, ⟨a, k, he, hown⟩, hb⟩ | ⟨_, he, hb⟩
    · exact ⟨a, k, _, 0, he, hb, .inl ⟨rfl, hr, rfl, own_bs hown⟩⟩
    · exact ⟨_, _, _, 5, he, hb, .inr rfl⟩
  have HB6 := hid (HB5.out.trans (hb6.mono HB5.out.size))
  have H56 := hid hb6
  have HC6 := hid hcase6
  clear hb6 hen hcase6 HQ5 HRB5 HB5
  rcases HC5.out with ⟨rfl, hr5, hn5, hbs5⟩ | rfl
  case inr =>
    clear HC5 HC6 HEQ H56
    go_wp2_with fail
    refine (HAW.out _).mono ?_
    rintro e w7 ⟨rfl, hb7⟩
    have HB7 := hid (HB6.out.trans (hb7.mono HB6.out.size))
    clear hb7 HB6
    go_wp2
    go_ret
    exact ⟨rfl, HB7.out⟩
  rcases HC6.out with ⟨rfl, hr6, hn6, hbs6⟩ | rfl
  case inr =>
    clear HC5 HC6 HEQ hr5 hn5 hbs5 H56
    go_wp2_with fail
    refine (HAW.out _).mono ?_
    rintro e w7 ⟨rfl, hb7⟩
    have HB7 := hid (HB6.out.trans (hb7.mono HB6.out.size))
    clear hb7 HB6
    go_wp2
    go_ret
    exact ⟨rfl, HB7.out⟩
  have hsb := SameBytes_any w6 a5 a6 k5 k6 n5 n6 (formP p) (formP q) hn5 hn6 ((hbs5.below H56.out).mono H56.out.size) hbs6 (by rw [hn5]; exact formP_le HP.out hr5) (by rw [hn6]; exact formP_le HQ.out hr6)
  rw [HEQ.out hr5 hr6] at hsb
  have HSB := hid hsb
  have HZE : (z == z) = true := by simp
  clear HC5 HC6 HEQ hr5 hn5 hbs5 hr6 hn6 hbs6 hsb H56
  go_wp2_with fail
  refine HSB.out.mono ?_
  rintro e w7 ⟨rfl, hb7⟩
  have HB7 := hid (HB6.out.trans (hb7.mono HB6.out.size))
  clear hb7 HB6 HSB
  go_wp2_with fail
  refine (HAW.out _).mono ?_
  rintro e w8 ⟨rfl, hb8⟩
  have HB8 := hid (HB7.out.trans (hb8.mono HB7.out.size))
  clear hb8 HB7
  go_wp2
  go_ret
  exact ⟨rfl, HB8.out⟩
end Go.Proofs.Ytceeipejhmnkfaa
