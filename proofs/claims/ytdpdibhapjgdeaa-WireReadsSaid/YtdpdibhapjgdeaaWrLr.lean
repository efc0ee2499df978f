/-
  The law WireReads: what each call of the law's function comes to.
-/
import Derived.Test.YtdpdibhapjgdeaaWrJ
import Derived.Test.YtdpdibhapjgdeaaWrK
namespace Go.Proofs.Ytdpdibhapjgdeaa
open Go Go.ChangeShapes Go.WideShapes Go.ChangeAt Go.RowKit

/-- How the law stands: its reader, what lay there, what was lent. -/
def RdRel (w wr : World) (p : Nat) (v : Value) (a : Nat) (xs : List Int) (g : Nat) : Prop := RdW wr p v a xs ∧ Below w.heap.size w wr ∧ Bs wr wr.heap.size (some ⟨g, 0, none⟩) (xs ++ slack) ∧ w.heap.size ≤ p ∧ g ≠ p
theorem RdRel.on {w wr w2 : World} {p : Nat} {v : Value} {a : Nat} {xs : List Int} {g : Nat} (h : RdRel w wr p v a xs g) (hb : Below wr.heap.size wr w2) : RdRel w w2 p v a xs g :=
  ⟨h.1.fr (Fr.of_below (fp := fun _ => False) hb) (fun h => h) (fun _ _ h => h), h.2.1.trans (hb.mono h.2.1.size), (h.2.2.1.below hb).mono hb.size, h.2.2.2.1, h.2.2.2.2⟩
theorem RdRel.go {w wr w2 : World} {p : Nat} {v : Value} {a b : Nat} {xs : List Int} {g : Nat} (h : RdRel w wr p v a xs g) (hr : RdW w2 p v b xs) (hf : Fr (fun j => j = p) wr w2) : RdRel w w2 p v b xs g :=
  ⟨hr, h.2.1.trans (hf.below h.2.1.size (fun k hk => by rw [hk]; exact h.2.2.2.1)), h.2.2.1.fr hf (fun b o he => by cases he; exact h.2.2.2.2), h.2.2.2.1, h.2.2.2.2⟩
set_option maxHeartbeats 4000000 in
set_option maxRecDepth 100000 in
theorem WireReads_any (w : World) (ad ae : Option Addr) (n cb nl cap : Nat) (xs : List Int) (l : List It) (hb : Bs w w.heap.size ad xs) (hnb : n = xs.length) (hby : Byt xs) (hcb : n ≤ cb) (hcb2 : cb ≤ 9223372036854775807) (h : IRow w w.heap.size ae l) (hn : nl = l.length) :
    Calls Try.prog 4 #[.slice ad n cb, .slice ae nl cap] w fun e w' => e = .returned (.bool true) ∧ Below w.heap.size w w' := by
  have H := hid h
  have HNL := hid hn
  have HNB := hid hnb
  have HB := hid hb
  have HBY := hid hby
  have HCB := hid hcb2
  clear h hn hnb hb hby hcb2
  by_cases hbig : 70000 < n
  · have d1 : decide ((70000 : Int) < (n : Int)) = true := by simp; omega
    go_enter Try.func4, Try.ntmps4
    go_wp2_with fail
    refine (awake_any _).mono ?_
    rintro e w2 ⟨rfl, h2⟩
    have H2 := hid h2
    clear h2
    go_wp2
    go_ret
    exact ⟨rfl, H2.out⟩
  · have d1 : decide ((70000 : Int) < (n : Int)) = false := by simp; omega
    have hn7 : n ≤ 70000 := by omega
    clear hbig
    go_enter Try.func4, Try.ntmps4
    go_wp2_with fail
    refine (Lent_any w ad cb n xs HB.out HNB.out (by omega)).mono ?_
    rintro e w2 ⟨g, rfl, hrow2, hb2⟩
    have hin2 := own_bs hrow2
    have hg2 : g < w2.heap.size := (hrow2.lt g rfl).2
    have hin3 : Bs w2 w2.heap.size (some ⟨g, 0, none⟩) xs := by
      have := hin2.take xs.length
      rw [List.take_left' rfl] at this; exact this
    have HNR := hid (NewReader_any w2 (some ⟨g, 0, none⟩) (n + 4) n xs HNB.out hin3 (fun h => by cases h) (by omega))
    have HIN2 := hid hin2
    have HB2 := hid hb2
    clear hrow2 hin2 hin3 hb2
    go_wp2_with fail
    refine HNR.out.mono ?_
    rintro e w3 ⟨p, v, rfl, hr3, hb3, hp3, hv3⟩
    have hrel3 : RdRel w w3 p v 0 xs g := ⟨hr3, HB2.out.trans (hb3.mono HB2.out.size), (HIN2.out.below hb3).mono hb3.size, Nat.le_trans HB2.out.size hp3, by omega⟩
    have HR3 := hid hrel3
    clear hr3 hb3 hp3 hv3 hrel3 hg2 HNR
    go_wp2
    go_loopw [7, 8] (fun at' i wr => ∃ q a : Nat, q ≤ nl ∧ q ≤ 100 ∧ i = .int .i64 q ∧ at' = .int .i64 a ∧ a ≤ n ∧ RowKit.Hid (RdRel w wr p v a xs g)) (fun _ i _ => 100 - (intOf i).toNat)
    case atStart => exact ⟨0, 0, by omega, by omega, rfl, rfl, by omega, HR3⟩
    case round =>
      obtain ⟨q, a, hq, hq1, rfl, rfl, ha, HR⟩ := hrel
      by_cases hqn : q < nl
      · by_cases hq9 : q < 100
        · obtain ⟨b, o, rfl, _⟩ := H.out.some (by have := HNL.out; omega)
          have hy : l[q]? = some (l[q]'(by have := HNL.out; omega)) := List.getElem?_eq_getElem _
          generalize l[q]'(by have := HNL.out; omega) = y at hy
          have HY := hid hy
          have i1 := H.out.below HR.out.2.1
          have c0 := i1.c0 hy
          have c2 := i1.c2 hy
          have hok := H.out.ok y (List.mem_of_getElem? hy)
          have HOK := hid hok
          have HRD := hid (HBY.out)
          clear hy hok i1
          cases hyt : y.t with
          | true =>
            rw [hyt] at c0
            clear hyt
            go_wp2_with fail
            have hpl := rdT_place (a := a) (m := y.s) HBY.out (by rw [← HNB.out]; exact ha)
            refine (RdText_any wr p a v xs y.s HR.out.1 HBY.out (by rw [← HNB.out]; omega) HOK.out.2.1.2).mono ?_
            rintro e w4 ⟨tv, rfl, hrow4, hr4, hf4⟩
            have hR4 := HR.out.go hr4 hf4
            have i4 := H.out.below hR4.2.1
            have c24 := i4.c2 HY.out
            have HRT := hid (ReadText_any w4 ad cb n a xs y.s ((HB.out.below hR4.2.1).mono hR4.2.1.size) HNB.out HBY.out (by omega) ha hcb HCB.out HOK.out.2.1.2)
            have HLN := hid (show (rdT xs a y.s).1.length ≤ n by
              have h2 := rdT_len (b := xs) (a := a) (m := y.s)
              rw [← HNB.out] at h2; exact h2)
            rw [← HNB.out] at hpl
            generalize rdT xs a y.s = r at *
            obtain ⟨ts, k, f⟩ := r
            simp only at hpl HLN hrow4 hR4
            obtain ⟨M, hM⟩ : ∃ M, M = ts.length := ⟨_, rfl⟩
            rw [← hM] at hrow4 HLN
            obtain ⟨ta, tk, rfl⟩ := own_form hrow4
            have R4 := hid hR4
            have HT4 := hid (own_bs hrow4)
            have HM := hid hM
            have hkn : k ≤ n := hpl
            have hMn : M ≤ n := HLN.out
            clear hrow4 hr4 hf4 hR4 i4 hM hpl c0 c2 HR
            go_wp2_with fail
            refine HRT.out.mono ?_
            rintro e w5 ⟨tv5, rfl, hrow5, hb5⟩
            simp only at hrow5
            rw [← HM.out] at hrow5
            obtain ⟨tb, tj, rfl⟩ := own_form hrow5
            have R5 := hid (R4.out.on hb5)
            have HSB := hid (SameBytes_any w5 ta tb tk tj M M ts ts HM.out HM.out ((HT4.out.below hb5).mono hb5.size) (own_bs hrow5) (by omega) (by omega))
            clear hrow5 hb5 HRT c24
            go_wp2_with fail
            refine HSB.out.mono ?_
            rintro e WX ⟨rfl, hX⟩
            have RX := hid (R5.out.on hX)
            rw [show (ts == ts) = true by simp]
            clear hX HSB
            have hkn2 := hkn
            by_cases hend : k = n
            · have he0 : endC k n = 0 := if_pos hend
              have HE0 := hid he0
              have u0 : (k == n) = true := by simpa using hend
              have u1 : ((k : Int) == (n : Int)) = true := by simp; omega
              clear he0 hend
              go_wp2_with fail
              refine (Left_any WX p k v xs RX.out.1 (by rw [← HNB.out]; omega)).mono ?_
              rintro e w6 ⟨rfl, h6⟩
              have R6 := hid (RX.out.on h6)
              rw [← HNB.out]
              clear h6
              go_wp2_with fail
              refine (End_any w6 p k v xs R6.out.1 (by rw [← HNB.out]; omega)).mono ?_
              rintro e w7 ⟨rfl, h7⟩
              have R7 := hid (R6.out.on h7)
              rw [← HNB.out, HE0.out]
              clear h7
              go_wp2_with fail
              refine (End_any w7 p k v xs R7.out.1 (by rw [← HNB.out]; omega)).mono ?_
              rintro e w8 ⟨rfl, h8⟩
              have R8 := hid (R7.out.on h8)
              rw [← HNB.out, HE0.out]
              clear h8
              go_wp2
              go_roundw
              case rel => exact ⟨q + 1, k, by omega, by omega, by go_num, rfl, by omega, R8⟩
              case measure => simp [intOf]; omega
            · have he0 : endC k n = 5 := if_neg hend
              have HE0 := hid he0
              have u0 : (k == n) = false := by simpa using hend
              have u1 : ((k : Int) == (n : Int)) = false := by simp; omega
              clear he0 hend
              go_wp2_with fail
              refine (Left_any WX p k v xs RX.out.1 (by rw [← HNB.out]; omega)).mono ?_
              rintro e w6 ⟨rfl, h6⟩
              have R6 := hid (RX.out.on h6)
              rw [← HNB.out]
              clear h6
              go_wp2_with fail
              refine (End_any w6 p k v xs R6.out.1 (by rw [← HNB.out]; omega)).mono ?_
              rintro e w7 ⟨rfl, h7⟩
              have R7 := hid (R6.out.on h7)
              rw [← HNB.out, HE0.out]
              clear h7
              go_wp2_with fail
              refine (End_any w7 p k v xs R7.out.1 (by rw [← HNB.out]; omega)).mono ?_
              rintro e w8 ⟨rfl, h8⟩
              have R8 := hid (R7.out.on h8)
              rw [← HNB.out, HE0.out]
              clear h8
              go_wp2_with fail
              refine (End_any w8 p k v xs R8.out.1 (by rw [← HNB.out]; omega)).mono ?_
              rintro e w9 ⟨rfl, h9⟩
              have R9 := hid (R8.out.on h9)
              rw [← HNB.out, HE0.out]
              clear h9
              go_wp2
              go_roundw
              case rel => exact ⟨q + 1, k, by omega, by omega, by go_num, rfl, by omega, R9⟩
              case measure => simp [intOf]; omega
          | false =>
            rw [hyt] at c0
            clear hyt
            go_wp2_with fail
            have hpl := rd_place (b := xs) (a := a) (s := y.s) (by rw [← HNB.out]; exact ha)
            refine (RdNum_any wr p a v xs y.s HR.out.1 HBY.out (by rw [← HNB.out]; omega)).mono ?_
            rintro e w4 ⟨rfl, hr4, hf4⟩
            have hR4 := HR.out.go hr4 hf4
            have i4 := H.out.below hR4.2.1
            have c24 := i4.c2 HY.out
            have HRT := hid (Read_any w4 ad cb n a xs y.s ((HB.out.below hR4.2.1).mono hR4.2.1.size) HNB.out HBY.out (by omega) ha)
            unfold rdV at HRT
            rw [← HNB.out] at hpl
            generalize rd xs a y.s = r at *
            obtain ⟨z, k, f⟩ := r
            simp only at hpl hR4 HRT
            have RX := hid hR4
            have hkn : k ≤ n := hpl
            clear hr4 hf4 hR4 i4 hpl c0 c2 HR
            go_wp2_with fail
            refine HRT.out.mono ?_
            rintro e WX ⟨rfl, rfl⟩
            clear HRT c24
            have hkn2 := hkn
            by_cases hend : k = n
            · have he0 : endC k n = 0 := if_pos hend
              have HE0 := hid he0
              have u0 : (k == n) = true := by simpa using hend
              have u1 : ((k : Int) == (n : Int)) = true := by simp; omega
              clear he0 hend
              go_wp2_with fail
              refine (Left_any w4 p k v xs RX.out.1 (by rw [← HNB.out]; omega)).mono ?_
              rintro e w6 ⟨rfl, h6⟩
              have R6 := hid (RX.out.on h6)
              rw [← HNB.out]
              clear h6
              go_wp2_with fail
              refine (End_any w6 p k v xs R6.out.1 (by rw [← HNB.out]; omega)).mono ?_
              rintro e w7 ⟨rfl, h7⟩
              have R7 := hid (R6.out.on h7)
              rw [← HNB.out, HE0.out]
              clear h7
              go_wp2_with fail
              refine (End_any w7 p k v xs R7.out.1 (by rw [← HNB.out]; omega)).mono ?_
              rintro e w8 ⟨rfl, h8⟩
              have R8 := hid (R7.out.on h8)
              rw [← HNB.out, HE0.out]
              clear h8
              go_wp2
              go_roundw
              case rel => exact ⟨q + 1, k, by omega, by omega, by go_num, rfl, by omega, R8⟩
              case measure => simp [intOf]; omega
            · have he0 : endC k n = 5 := if_neg hend
              have HE0 := hid he0
              have u0 : (k == n) = false := by simpa using hend
              have u1 : ((k : Int) == (n : Int)) = false := by simp; omega
              clear he0 hend
              go_wp2_with fail
              refine (Left_any w4 p k v xs RX.out.1 (by rw [← HNB.out]; omega)).mono ?_
              rintro e w6 ⟨rfl, h6⟩
              have R6 := hid (RX.out.on h6)
              rw [← HNB.out]
              clear h6
              go_wp2_with fail
              refine (End_any w6 p k v xs R6.out.1 (by rw [← HNB.out]; omega)).mono ?_
              rintro e w7 ⟨rfl, h7⟩
              have R7 := hid (R6.out.on h7)
              rw [← HNB.out, HE0.out]
              clear h7
              go_wp2_with fail
              refine (End_any w7 p k v xs R7.out.1 (by rw [← HNB.out]; omega)).mono ?_
              rintro e w8 ⟨rfl, h8⟩
              have R8 := hid (R7.out.on h8)
              rw [← HNB.out, HE0.out]
              clear h8
              go_wp2_with fail
              refine (End_any w8 p k v xs R8.out.1 (by rw [← HNB.out]; omega)).mono ?_
              rintro e w9 ⟨rfl, h9⟩
              have R9 := hid (R8.out.on h9)
              rw [← HNB.out, HE0.out]
              clear h9
              go_wp2
              go_roundw
              case rel => exact ⟨q + 1, k, by omega, by omega, by go_num, rfl, by omega, R9⟩
              case measure => simp [intOf]; omega
        · obtain rfl : q = 100 := by omega
          have hkp := Kept_any wr g 0 (n + 4) cb n ad xs xs HR.out.2.2.1 ((HB.out.below HR.out.2.1).mono HR.out.2.1.size) HNB.out HNB.out (Nat.le_refl _) (by omega)
          have HKP := hid hkp
          clear hkp
          go_wp2_with fail
          refine HKP.out.mono ?_
          rintro e w6 ⟨rfl, h6⟩
          have H6 := hid (HR.out.2.1.trans (h6.mono HR.out.2.1.size))
          clear h6
          rw [show (xs == xs) = true by simp]
          go_wp2_with fail
          refine (awake_any _).mono ?_
          rintro e w7 ⟨rfl, h7⟩
          have H7 := hid (H6.out.trans (h7.mono H6.out.size))
          clear h7
          go_wp2
          go_ret
          exact ⟨rfl, H7.out⟩
      · obtain rfl : q = nl := by omega
        have hkp := Kept_any wr g 0 (n + 4) cb n ad xs xs HR.out.2.2.1 ((HB.out.below HR.out.2.1).mono HR.out.2.1.size) HNB.out HNB.out (Nat.le_refl _) (by omega)
        have HKP := hid hkp
        clear hkp
        go_wp2_with fail
        refine HKP.out.mono ?_
        rintro e w6 ⟨rfl, h6⟩
        have H6 := hid (HR.out.2.1.trans (h6.mono HR.out.2.1.size))
        clear h6
        rw [show (xs == xs) = true by simp]
        go_wp2_with fail
        refine (awake_any _).mono ?_
        rintro e w7 ⟨rfl, h7⟩
        have H7 := hid (H6.out.trans (h7.mono H6.out.size))
        clear h7
        go_wp2
        go_ret
        exact ⟨rfl, H7.out⟩
end Go.Proofs.Ytdpdibhapjgdeaa
