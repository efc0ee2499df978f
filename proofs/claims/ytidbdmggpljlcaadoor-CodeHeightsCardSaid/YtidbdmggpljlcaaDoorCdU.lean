/-
  The laws of layer 9: CodeShort.
-/
import Derived.Test.YtidbdmggpljlcaaDoorCdS
namespace Go.Proofs.YtidbdmggpljlcaaDoor
open Go Go.ChangeShapes Go.WideShapes Go.ChangeAt Go.RowKit

theorem RwI.take {W : World} {B : Nat} {b o : Nat} {ls : List Ins} (h : RwI W B (some ⟨b, o, none⟩) ls) (hl : 0 < ls.length) (k : Nat) : RwI W B (some ⟨b, o, none⟩) (ls.take k) :=
  ⟨fun _ => h.at_ hl, fun b' o' he i x hx => h.rows b' o' he i x (by
    rw [List.getElem?_take] at hx
    split at hx
    · exact hx
    · cases hx)⟩
theorem flatI_len : ∀ ls : List Ins, (ls.flatMap insc).length = ls.length * 3
  | [] => rfl
  | x :: r => by
    rw [List.flatMap_cons, List.length_append, flatI_len r, List.length_cons]
    have : (insc x).length = 3 := rfl
    omega
theorem flatI_get {x : Ins} {j : Nat} (hj : j < 3) : ∀ {ls : List Ins} {i : Nat}, ls[i]? = some x → (ls.flatMap insc)[i * 3 + j]? = (insc x)[j]?
  | y :: r, 0, h => by
    cases h
    rw [List.flatMap_cons, List.getElem?_append_left (by have : (insc x).length = 3 := rfl; omega)]
    simp
  | y :: r, i + 1, h => by
    have hy : (insc y).length = 3 := rfl
    rw [List.flatMap_cons, List.getElem?_append_right (by omega), show (i + 1) * 3 + j - (insc y).length = i * 3 + j by omega]
    exact flatI_get hj (by simpa using h)
theorem flatI_one (ls : List Ins) : ∀ u ∈ ls.flatMap insc, u.oneCell' = true := fun u hu => by
  obtain ⟨x, _, hx⟩ := List.mem_flatMap.1 hu
  simp only [insc, List.mem_cons, List.not_mem_nil, or_false] at hx
  rcases hx with rfl | rfl | rfl <;> rfl
theorem RwI.news {W : World} {B b o : Nat} {ls : List Ins} (h : RwI W B (some ⟨b, o, none⟩) ls) : ∀ j u, (ls.flatMap insc)[j]? = some u → W.cell? ((⟨b, o, none⟩ : Addr).add j) = some u := fun j u hu => by
  have hj := (List.getElem?_eq_some_iff.1 hu).1
  rw [flatI_len] at hj
  have hi : j / 3 < ls.length := by omega
  have e : j / 3 * 3 + j % 3 = j := by omega
  have h2 := h.rows b o rfl (j / 3) _ (List.getElem?_eq_getElem hi) (j % 3) u (by rw [← flatI_get (Nat.mod_lt _ (by omega)) (List.getElem?_eq_getElem hi), e]; exact hu)
  rw [Nat.add_assoc, e] at h2
  by_cases hj0 : j = 0
  · subst hj0
    simpa [Addr.add] using h2
  · simpa [Addr.add, hj0] using h2
theorem RwI.of_own {W : World} {B : Nat} {e : TypeId} {a : Option Addr} {n c : Nat} {ls : List Ins} (h : W.ownsRow B e 3 (.slice a n c) n (ls.flatMap insc)) : RwI W W.heap.size a ls := by
  have hl := h.1
  rw [flatI_len] at hl
  rcases h.2 with ⟨q1, q2⟩ | ⟨g, cap, cur, q1, q2, q3, q4, q5, q6, q7⟩
  · cases q1
    exact ⟨fun h => by omega, fun b o he => by cases he⟩
  · cases q1
    refine ⟨fun _ => ⟨g, 0, rfl, (Array.getElem?_eq_some_iff.1 q3).1⟩, fun b o he i x hx j u hu => ?_⟩
    cases he
    have hi := (List.getElem?_eq_some_iff.1 hx).1
    have hj : j < 3 := (List.getElem?_eq_some_iff.1 hu).1
    rw [Nat.zero_add, h.cellAt (i * 3 + j) (by omega), flatI_get hj hx]
    exact hu
theorem retI_ok : InsOk retI := ⟨by simp [J64, retI], by simp [J64, retI], by simp [J64, retI]⟩
set_option maxRecDepth 100000 in
theorem infoInstr : (Tryd.prog.info? 32).map (fun i => (i.zero, i.size, i.bytes)) = some (some (.agg #[.int .i64 0, .int .i64 0, .int .i64 0]), 3, 24) := by kernel_rfl
set_option maxRecDepth 100000 in
set_option maxHeartbeats 8000000 in
theorem CodeShort_any (w : World) (HC : CkC w) (HA : AwC w) (ls : List Ins) (ad : Option Addr) (n c : Nat) (s : Int) (hok : ∀ x ∈ ls, InsOk x) (hs : J64 s) (hr : RwI w w.heap.size ad ls) (hn : n = ls.length) (hc : n ≤ c) (hc2 : c ≤ 9223372036854775807) :
    Calls Tryd.prog 6 #[.slice ad n c, .int .i64 s] w fun e w' => e = .returned (.bool true) ∧ Below w.heap.size w w' := by
  have HAW := hid HA
  have HCC := hid HC
  have HOK := hid hok
  have HR := hid hr
  have HN := hid hn
  have HS := hid hs
  have HG := hid (fun w => great_any ad n c w)
  have hcc1 := hc
  have hcc2 := hc2
  have C1 := hid (HC ls s ad n c w (Below.refl _ _) hok hs hr hn hc hc2)
  unfold CkP at C1
  clear hok hr hn hc hc2 HC HA hs
  by_cases hg : 60 < n
  · have d1 : decide (60 < n) = true := decide_eq_true hg
    rw [d1] at HG
    clear hg
    go_enter Tryd.func6, Tryd.ntmps6
    go_wp2_with fail
    refine (HG.out _).mono ?_
    rintro e w2 ⟨rfl, rfl⟩
    go_wp2_with fail
    refine (HAW.out _ (by first | exact Below.refl _ _ | exact HB.out | exact HB1.out | exact HB2.out | exact HB3.out | exact HB4.out | exact HB5.out | exact HB6.out | exact HB7.out | exact HB8.out | exact HB9.out | exact HB10.out | exact HB11.out | exact HBr.out | exact HB11.out.trans (HBr.out.mono HB11.out.size))).mono ?_
    rintro e w3 ⟨rfl, hb3⟩
    have HB3 := hid hb3
    clear hb3
    go_wp2
    go_ret
    exact ⟨rfl, HB3.out⟩
  have d1 : decide (60 < n) = false := decide_eq_false hg
  rw [d1] at HG
  clear hg d1
  go_enter Tryd.func6, Tryd.ntmps6
  go_wp2_with fail
  refine (HG.out _).mono ?_
  rintro e w2 ⟨rfl, rfl⟩
  go_wp2_with fail
  refine C1.out.mono ?_
  rintro e w3 ⟨rfl, hb3⟩
  have HB3 := hid hb3
  have HR3 := hid (HR.out.on hb3)
  clear hb3 C1 HG
  by_cases he : (heightP ls s).2.2 = 0
  case neg =>
    have hce : (checkP ls s).2.2 = (heightP ls s).2.2 := by unfold checkP; rw [if_neg he]
    have d2 : ((checkP ls s).2.2 != 0) = true := by rw [hce]; simpa using he
    generalize checkP ls s = k at *
    clear he hce
    go_wp2_with fail
    refine (HAW.out _ (by first | exact Below.refl _ _ | exact HB.out | exact HB1.out | exact HB2.out | exact HB3.out | exact HB4.out | exact HB5.out | exact HB6.out | exact HB7.out | exact HB8.out | exact HB9.out | exact HB10.out | exact HB11.out | exact HBr.out | exact HB11.out.trans (HBr.out.mono HB11.out.size))).mono ?_
    rintro e w5 ⟨rfl, hb5⟩
    have HB5 := hid (HB3.out.trans (hb5.mono HB3.out.size))
    clear hb5
    go_wp2
    go_ret
    exact ⟨rfl, HB5.out⟩
  have hrc := right_of he
  obtain ⟨h, hh⟩ : ∃ h, h = (heightP ls s).1 := ⟨_, rfl⟩
  rw [← hh] at hrc
  rw [check_right hrc]
  have HRC := hid hrc
  have hn1 : 1 ≤ n := by have := HN.out; have := hrc.1; omega
  have hn32 : n ≤ 32 := by have := HN.out; have := hrc.2.1; omega
  obtain ⟨b, o, rfl, _⟩ := HR3.out.at_ (by have := HN.out; omega)
  have wn : IntKind.i64.wrap ((n : Int) - 1) = ((n - 1 : Nat) : Int) := by rw [IntWalk.i64_in _ (by omega)]; omega
  have C2 := hid (HCC.out (ls.take (ls.length - 1)) s (some ⟨b, o, none⟩) (n - 1) c w3 HB3.out (fun x hx => HOK.out x (List.mem_of_mem_take hx)) HS.out (HR3.out.take (by have := HN.out; omega) _) (by rw [List.length_take]; have := HN.out; omega) (by omega) hcc2)
  unfold CkP at C2
  have HSC := hid (short_check hrc)
  have hmc := more_check hrc
  have HMC := hid hmc
  generalize checkP (ls.take (ls.length - 1)) s = k2 at *
  generalize mostP ls s h h.length = mo at *
  obtain ⟨m2, p2, e2⟩ := k2
  clear he hh hrc hmc
  go_wp2_with fail
  refine C2.out.mono ?_
  rintro e w4 ⟨rfl, hb4⟩
  have HB4 := hid (HB3.out.trans (hb4.mono HB3.out.size))
  have HR4 := hid (HR3.out.on hb4)
  clear hb4 C2 HB3 HR3 wn
  have HM := hid (World.ownsRow_made (base := w4.heap.size) (e := 32) (size := 3) w4 #[] 0 (Nat.le_refl _) (Nat.zero_le _) rfl)
  have HNW := hid ((HR4.out.on ((Below.refl w4.heap.size w4).alloc (Nat.le_refl _) (.cells #[] 32))).news)
  have HFL := hid (show (ls.flatMap insc).length = n * 3 by rw [flatI_len, HN.out])
  obtain ⟨i0, hi0q, hz0, hz1, hz2⟩ := info_parts infoInstr
  have hi' := hid hi0q
  have hz0' := hid hz0
  have hz1' := hid hz1
  have hz2' := hid hz2
  clear hi0q hz0 hz1 hz2
  go_wp2_with (first
    | ((at_builtin; refine wpList_append_own_at _ (o := ⟨some 41, _, _, _, _, _⟩) rfl (.tmp 39) (.tmp 40) 22 rfl w4.heap.size 32 i0 (.agg #[.int .i64 0, .int .i64 0, .int .i64 0]) 3 24 Tryd.underlying22 hi'.out hz0'.out hz1'.out hz2'.out rfl (by decide) (.slice (some ⟨w4.heap.size, 0, none⟩) 0 0) 0 _ rfl HM.out ⟨b, o, none⟩ n c (ls.flatMap insc) rfl HFL.out HNW.out (flatI_one ls) (by unfold maxLen; omega) (by omega) (by simp) ?_; intro v5 w5 hown5 hgrow5 hnil5 hat5; have HO5 := hid hown5; have HG5 := hid hgrow5; clear hown5 hgrow5 hnil5 hat5; obtain ⟨a5, d5, rfl⟩ := own_form HO5.out); have HB5 := hid (below_append ((Below.refl w4.heap.size w4).alloc (Nat.le_refl _) (.cells #[] 32)) HM.out HG5.out (by simp)); have HSZ5 := hid HB5.out.size; have HR5 := hid (HR4.out.on HB5.out); have HO5x : Hid (w5.ownsRow w4.heap.size 32 3 (.slice a5 n d5) n (ls.flatMap insc)) := hid (by have := HO5.out; rw [Nat.zero_add, List.nil_append] at this; exact this); clear HNW HFL HO5 HG5)
    | (at_builtin; refine wpList_append_own_at _ (o := ⟨some 44, _, _, _, _, _⟩) rfl (.tmp 41) (.tmp 43) 22 rfl w4.heap.size 32 i0 (.agg #[.int .i64 0, .int .i64 0, .int .i64 0]) 3 24 Tryd.underlying22 hi'.out hz0'.out hz1'.out hz2'.out rfl (by decide) (.slice a5 n d5) n _ rfl (HO5x.out.alloc _) ⟨w5.heap.size, 0, none⟩ 1 1 (insc retI) rfl rfl (World.news_of_block (heap_alloc_new w5 _)) (fun u hu => flatI_one [retI] u (by simpa using hu)) (by unfold maxLen; omega) (by omega) (by have := HSZ5.out; simp; omega) ?_; intro v6 w6 hown6 hgrow6 hnil6 hat6; have HO6 := hid hown6; have HG6 := hid hgrow6; clear hown6 hgrow6 hnil6 hat6; obtain ⟨a6, d6, rfl⟩ := own_form HO6.out)
    | fail)
  have HB6 := hid (below_append (HB5.out.alloc HSZ5.out _) (HO5x.out.alloc _) HG6.out (by have := HSZ5.out; simp; omega))
  have HO6' : w6.ownsRow w4.heap.size 32 3 (.slice a6 (n + 1) d6) (n + 1) ((ls ++ [retI]).flatMap insc) := by
    have := HO6.out
    rw [List.flatMap_append]
    exact this
  have hdc := own_cap HO6'
  have hdm := own_capmax HO6'
  have C3 := hid (HCC.out (ls ++ [retI]) s a6 (n + 1) d6 w6 (HB4.out.trans (HB6.out.mono HB4.out.size)) (fun x hx => by
    rcases List.mem_append.1 hx with q | q
    · exact HOK.out x q
    · cases List.mem_singleton.1 q
      exact retI_ok) HS.out (RwI.of_own HO6') (by rw [List.length_append, ← HN.out]; simp) hdc hdm)
  unfold CkP at C3
  have d6 : (e2 != 0) = true := by simpa using HSC.out
  have HLA := hid (show ∀ p3 e3 : Int, (e3 ≠ 0 ∧ (p3 = ls.length ∨ ls.length = 32)) → ∃ b1 : Bool, (e3 != 0) = true ∧ (p3 == (n : Int)) = b1 ∧ (b1 = false → ((n : Int) == 32) = true) by
    intro p3 e3 ⟨q1, q2⟩
    refine ⟨p3 == (n : Int), by simpa using q1, rfl, fun q => ?_⟩
    have := HN.out
    simp at q ⊢
    omega)
  generalize checkP (ls ++ [retI]) s = k3 at *
  obtain ⟨m3, p3, e3⟩ := k3
  obtain ⟨b1, hl1, hl2, hl3⟩ := HLA.out p3 e3 HMC.out
  clear HMC HSC HLA HO6' hdc hdm hi' hz0' hz1' hz2'
  refine C3.out.mono ?_
  rintro e w7 ⟨rfl, hb7⟩
  have HB7 := hid (HB4.out.trans ((HB6.out.trans (hb7.mono HB6.out.size)).mono HB4.out.size))
  clear hb7 HB6 HO6 HG6 HB5 HSZ5 HR5 HO5x HM C3
  cases b1 with
  | true =>
    clear hl3
    go_wp2_with fail
    refine (HAW.out _ (by first | exact Below.refl _ _ | exact HB.out | exact HB1.out | exact HB2.out | exact HB3.out | exact HB4.out | exact HB5.out | exact HB6.out | exact HB7.out | exact HB8.out | exact HB9.out | exact HB10.out | exact HB11.out | exact HBr.out | exact HB11.out.trans (HBr.out.mono HB11.out.size))).mono ?_
    rintro e w8 ⟨rfl, hb8⟩
    have HB8 := hid (HB7.out.trans (hb8.mono HB7.out.size))
    clear hb8
    go_wp2
    go_ret
    exact ⟨rfl, HB8.out⟩
  | false =>
    have hl4 := hl3 rfl
    clear hl3
    go_wp2_with fail
    refine (HAW.out _ (by first | exact Below.refl _ _ | exact HB.out | exact HB1.out | exact HB2.out | exact HB3.out | exact HB4.out | exact HB5.out | exact HB6.out | exact HB7.out | exact HB8.out | exact HB9.out | exact HB10.out | exact HB11.out | exact HBr.out | exact HB11.out.trans (HBr.out.mono HB11.out.size))).mono ?_
    rintro e w8 ⟨rfl, hb8⟩
    have HB8 := hid (HB7.out.trans (hb8.mono HB7.out.size))
    clear hb8
    go_wp2
    go_ret
    exact ⟨rfl, HB8.out⟩
end Go.Proofs.YtidbdmggpljlcaaDoor
