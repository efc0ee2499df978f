/-
  RingOrder's walk.
-/
import Derived.Test.YtmkajdfajcodjabRgFrame
namespace Go.Proofs.Ytmkajdfajcodjab
open Go Go.ChangeShapes Go.WideShapes Go.ChangeAt Go.RowKit

/-- A ring, and two rows beside it. -/
structure OrI (w0 w : World) (v inv outv : Value) (mo : Nat) (I O q : List Int) : Prop where
  ex : ∃ S, RgIn S w v mo q ∧ (∀ k, S k → w0.heap.size ≤ k) ∧ (∀ k, inv.ownBlock = some k → ¬ S k) ∧ ∀ k, outv.ownBlock = some k → ¬ S k
  i : w.ownsRow w0.heap.size TI 1 inv I.length (I.map iv)
  o : w.ownsRow w0.heap.size TI 1 outv O.length (O.map iv)
  ne : ∀ k, inv.ownBlock = some k → outv.ownBlock ≠ some k
  bel : Below w0.heap.size w0 w
section
variable {w0 w w' : World} {v inv outv v' : Value} {mo : Nat} {I O q q' : List Int} {x : Int}
theorem OrI.swap (h : OrI w0 w v inv outv mo I O q) : OrI w0 w v outv inv mo O I q := by
  obtain ⟨S, h1, h2, h3, h4⟩ := h.ex
  exact ⟨⟨S, h1, h2, h4, h3⟩, h.o, h.i, fun k hk e => h.ne k e hk, h.bel⟩
theorem OrI.push {ob : Obj} (h : OrI w0 w v inv outv mo I O q) (hr : w'.ownsRow w0.heap.size TI 1 v' (I ++ [x]).length ((I ++ [x]).map iv)) (hg : (w.alloc ob).grownBy w' inv.ownBlock) (hat : v'.ownBlock = inv.ownBlock ∨ v'.ownBlock = some (w.alloc ob).heap.size) : OrI w0 w' v v' outv mo (I ++ [x]) O q := by
  obtain ⟨S, h1, h2, h3, h4⟩ := h.ex
  have hf : Fr (fun k => inv.ownBlock = some k) w w' := ((Fr.refl _ w).alloc ob).grown hg (fun k hk _ => hk)
  have hb : ∀ k, v'.ownBlock = some k → inv.ownBlock = some k ∨ w.heap.size ≤ k := fun k hk => by
    rcases hat with e | e
    · exact .inl (by rw [← e]; exact hk)
    · rw [e] at hk; simp at hk; omega
  refine ⟨⟨S, h1.fr hf (fun k hk e => h3 k e hk), h2, fun k hk hS => ?_, h4⟩, hr, hf.owns h.o (fun k hk e => h.ne k e hk), fun k hk e => ?_, (h.bel.alloc h.bel.size ob).grown hg (by have := h.bel.size; simp; omega) (fun k hk => (h.i.lt k hk).1)⟩
  · rcases hb k hk with e | e
    · exact h3 k e hS
    · have := h1.lt k hS; omega
  · rcases hb k hk with e2 | e2
    · exact h.ne k e2 e
    · have := (h.o.lt k e).2; omega
theorem OrI.put (h : OrI w0 w v inv outv mo I O q) (x : Int) : Calls Try.prog 10 #[v, iv x] w fun e w' =>
    e = .returned (.int .i64 (if q.length < mo then 0 else 3)) ∧ OrI w0 w' v inv outv mo I O (if q.length < mo then q ++ [x] else q) := by
  obtain ⟨S, h1, h2, h3, h4⟩ := h.ex
  refine (h1.put x).mono ?_
  rintro e w' ⟨he, h5, h6⟩
  have hx : ∀ {u : Value} {n : Nat} {xs : List Value}, w.ownsRow w0.heap.size TI 1 u n xs → (∀ k, u.ownBlock = some k → ¬ S k) → ∀ k, u.ownBlock = some k → ¬ exS S w w' k := fun hr hn k hk e => by
    rcases e with e | e
    · exact hn k hk e
    · have := (hr.lt k hk).2; omega
  exact ⟨he, ⟨⟨_, h5, ex_bound h2 h.bel.size, hx h.i h3, hx h.o h4⟩, h6.owns h.i h3, h6.owns h.o h4, h.ne, h.bel.trans (h6.below h.bel.size h2)⟩⟩
theorem OrI.take (h : OrI w0 w v inv outv mo I O q) : Calls Try.prog 12 #[v] w fun e w' =>
    e = .returned (.tuple #[iv (q.headD 0), .int .i64 (if q = [] then 12 else 0)]) ∧ OrI w0 w' v inv outv mo I O q.tail := by
  obtain ⟨S, h1, h2, h3, h4⟩ := h.ex
  refine h1.take.mono ?_
  rintro e w' ⟨he, h5, h6⟩
  have hx : ∀ {u : Value} {n : Nat} {xs : List Value}, w.ownsRow w0.heap.size TI 1 u n xs → (∀ k, u.ownBlock = some k → ¬ S k) → ∀ k, u.ownBlock = some k → ¬ exS S w w' k := fun hr hn k hk e => by
    rcases e with e | e
    · exact hn k hk e
    · have := (hr.lt k hk).2; omega
  exact ⟨he, ⟨⟨_, h5, ex_bound h2 h.bel.size, hx h.i h3, hx h.o h4⟩, h6.owns h.i h3, h6.owns h.o h4, h.ne, h.bel.trans (h6.below h.bel.size h2)⟩⟩
theorem OrI.len (h : OrI w0 w v inv outv mo I O q) : Calls Try.prog 14 #[v] w fun e w' => e = .returned (nI q.length) ∧ w = w' := by
  obtain ⟨S, h1, _⟩ := h.ex
  exact h1.len
end
set_option maxRecDepth 100000 in
set_option maxHeartbeats 8000000 in
theorem RingOrder_any (w : World) (most : Int) (sv : Value) (l : List Int) (hm : -9223372036854775808 ≤ most ∧ most ≤ 9223372036854775807) (hS : Tl iv w.heap.size w sv l) (hb : ∀ x ∈ l, I64b x) :
    Calls Try.prog 5 #[.int .i64 most, sv] w fun e w' => e = .returned (.bool true) ∧ Below w.heap.size w w' := by
  obtain ⟨sa, sc, rfl, hsc, hsc2, hat⟩ := hS.ex
  have hnn := Int.emod_nonneg most (show (60 : Int) ≠ 0 by decide)
  have hlt := Int.emod_lt_of_pos most (show (0 : Int) < 60 by decide)
  obtain ⟨mo, hmo⟩ : ∃ mo, mo = 1 + most % 60 := ⟨_, rfl⟩
  have HPK := hid (Pick_any most 60 w hm (by decide) (by decide))
  have HNW := hid (Rnew_ok w mo (by omega))
  have HWM := hid (IntWalk.i64_in mo (by omega))
  have HMO := hid hmo
  obtain ⟨n, hn⟩ : ∃ n, n = l.length := ⟨_, rfl⟩
  rw [← hn] at hsc hat ⊢
  have HN := hid hn
  have HAT := hid hat
  have HB := hid hb
  obtain ⟨m, hmn⟩ : ∃ m, m = mo.toNat := ⟨_, rfl⟩
  rw [← hmn] at HNW
  have hmb : m ≤ 60 := by omega
  have HMB := hid hmb
  have hcl : ∀ k : Nat, k ≤ 200 → IntKind.i64.wrap ((k : Int) + 1) = (k : Int) + 1 := fun k hk => IntWalk.i64_in _ (by omega)
  have HW := hid hcl
  clear hS hat hb hm hmo hn hnn hlt hmn hmb hcl
  go_enter Try.func5, Try.ntmps5
  go_wp2_with fail
  refine HPK.out.mono ?_
  rintro e w' ⟨rfl, rfl⟩
  have hwm := HWM.out
  rw [HMO.out] at hwm
  go_wp2_with fail
  rw [← HMO.out]
  clear hwm
  refine HNW.out.mono ?_
  rintro e w1 ⟨hb1, v, rfl, h1⟩
  obtain ⟨p, rfl⟩ := h1.ptr
  have hO : OrI w w1 (.pointer (some ⟨p, 0, none⟩)) (.slice none 0 0) (.slice none 0 0) m [] [] [] := by
    obtain ⟨S, h2, h3⟩ := h1
    exact ⟨⟨S, h3, h2, fun k hk => by simp [Value.ownBlock] at hk, fun k hk => by simp [Value.ownBlock] at hk⟩, World.ownsRow_nil _ _ _ _, World.ownsRow_nil _ _ _ _, fun k hk => by simp [Value.ownBlock] at hk, hb1⟩
  have HO := hid hO
  clear hO hb1 h1 HPK HNW HMO HWM
  go_wp2_with fail
  go_loopw [7, 8, 9] (fun a b i wr => ∃ (k : Nat) (I O q : List Int), k ≤ n ∧ k ≤ 200 ∧ i = .int .i64 k ∧ I.length ≤ k ∧ RowKit.Hid (I = O ++ q) ∧ RowKit.Hid (OrI w wr (.pointer (some ⟨p, 0, none⟩)) a b m I O q)) (fun _ _ i _ => 200 - (intOf i).toNat)
  case atStart => exact ⟨0, [], [], [], by omega, by omega, rfl, by simp, rfl, HO⟩
  case round =>
    obtain ⟨k, I, O, q, hkn, hk2, rfl, hIl, HE, HI⟩ := hrel
    by_cases hgo : k < n ∧ k < 200
    · obtain ⟨hg1, hg2⟩ := hgo
      have hx : l[k]? = some (l[k]'(by rw [← HN.out]; exact hg1)) := List.getElem?_eq_getElem _
      have hxb := HB.out _ (List.mem_of_getElem? hx)
      generalize l[k]'(by rw [← HN.out]; exact hg1) = x at hx hxb
      obtain ⟨b, o, rfl, hbl, hcs⟩ := HAT.out (by omega)
      have cx : wr.cell? ⟨b, o + k, none⟩ = some (iv x) := (World.cell?_of_block (w := w) (w' := wr) (a := ⟨b, o + k, none⟩) (HI.out.bel.block b hbl)).trans (hcs k x hx)
      obtain ⟨t1, t2, _, _⟩ := tmod_pick x 3 (by decide)
      have hw3 := IntWalk.i64_in (x.tmod 3) (by unfold I64b at hxb; omega)
      have hwk := HW.out k (by omega)
      obtain ⟨ia, ic, hia⟩ := own_form HI.out.i
      obtain ⟨oa, oc, hoa⟩ := own_form HI.out.o
      subst hia hoa
      obtain ⟨iL, hiL⟩ : ∃ iL, iL = I.length := ⟨_, rfl⟩
      obtain ⟨oL, hoL⟩ : ∃ oL, oL = O.length := ⟨_, rfl⟩
      have HIL := hid hiL
      have HOL := hid hoL
      have hol : oL ≤ 200 := by
        have := congrArg List.length HE.out
        rw [List.length_append] at this
        omega
      rw [← hiL, ← hoL] at HI ⊢
      rw [← hiL] at hIl
      have HBL := hid hbl
      have HCX := hid (hcs k x hx)
      clear hx hcs hbl hiL hoL t1 t2
      by_cases h3 : x.tmod 3 = 0
      · have d3 : (x.tmod 3 != 0) = false := by simp [h3]
        clear h3
        cases q with
        | nil =>
          have HT : RowKit.Hid (Calls Try.prog 12 #[.pointer (some ⟨p, 0, none⟩)] wr fun e w' => e = .returned (.tuple #[.int .i64 0, .int .i64 12]) ∧ OrI w w' (.pointer (some ⟨p, 0, none⟩)) (.slice ia iL ic) (.slice oa oL oc) m I O []) := HI.out.take
          clear HI
          go_wp2_with (first
            | (go_at_call 12; refine HT.out.mono ?_; rintro e w5 ⟨rfl, h5⟩; have H5 := hid h5; clear h5 HT cx)
            | fail)
          go_roundw
          case rel => exact ⟨k + 1, I, O, [], by omega, by omega, by go_num, by rw [← HIL.out]; omega, HE, H5⟩
          case measure => simp [intOf]; omega
        | cons y q =>
          have HT : RowKit.Hid (Calls Try.prog 12 #[.pointer (some ⟨p, 0, none⟩)] wr fun e w' => e = .returned (.tuple #[.int .i64 y, .int .i64 0]) ∧ OrI w w' (.pointer (some ⟨p, 0, none⟩)) (.slice ia iL ic) (.slice oa oL oc) m I O q) := (HI.out.take).mono (fun e w' h => by simpa using h)
          clear HI
          go_wp2_with (first
            | (go_at_call 12; refine HT.out.mono ?_; rintro e w5 ⟨rfl, h5⟩; have H5 := hid h5; clear h5 HT cx)
            | ((with_reducible refine at_op ⟨some 63, _, _, _, _, _⟩ ?_); go_loud (refine wpList_appZ rfl (.tmp 60) (.tmp 62) rfl w.heap.size (.slice oa oL oc) O [y] rfl (H5.out.o.alloc _) w5.heap.size 0 1 1 rfl rfl (fun j y hy => new_one w5 _ j y hy) (by have := HOL.out; simp; omega) (by have := H5.out.bel.size; simp; omega) ?_); intro v2 w2 k1 k2 k3; have H6 := hid (H5.out.swap.push k1 k2 k3).swap; clear k1 k2 k3)
            | fail)
          go_roundw
          case rel => exact ⟨k + 1, I, O ++ [y], q, by omega, by omega, by go_num, by rw [← HIL.out]; omega, hid (by rw [HE.out]; simp), H6⟩
          case measure => simp [intOf]; omega
      · have d3 : (x.tmod 3 != 0) = true := by simpa using h3
        clear h3
        by_cases hq : q.length < m
        · have HP : RowKit.Hid (Calls Try.prog 10 #[.pointer (some ⟨p, 0, none⟩), .int .i64 x] wr fun e w' => e = .returned (.int .i64 0) ∧ OrI w w' (.pointer (some ⟨p, 0, none⟩)) (.slice ia iL ic) (.slice oa oL oc) m I O (q ++ [x])) := (HI.out.put x).mono (fun e w' h => by simpa only [if_pos hq] using h)
          clear HI hq
          go_wp2_with (first
            | (go_at_call 10; refine HP.out.mono ?_; rintro e w5 ⟨rfl, h5⟩; have cx5 : w5.cell? ⟨b, o + k, none⟩ = some (iv x) := (World.cell?_of_block (w := w) (w' := w5) (a := ⟨b, o + k, none⟩) (h5.bel.block b HBL.out)).trans (HCX.out); have H5 := hid h5; clear h5 HP cx)
            | ((with_reducible refine at_op ⟨some 52, _, _, _, _, _⟩ ?_); go_loud (refine wpList_appZ rfl (.tmp 46) (.tmp 51) rfl w.heap.size (.slice ia iL ic) I [x] rfl (H5.out.i.alloc _) w5.heap.size 0 1 1 rfl rfl (fun j y hy => new_one w5 _ j y hy) (by have := HIL.out; simp; omega) (by have := H5.out.bel.size; simp; omega) ?_); intro v2 w2 k1 k2 k3; have H6 := hid (H5.out.push k1 k2 k3); clear k1 k2 k3)
            | fail)
          go_roundw
          case rel => exact ⟨k + 1, I ++ [x], O, q ++ [x], by omega, by omega, by go_num, by rw [List.length_append, ← HIL.out]; simp; omega, hid (by rw [HE.out]; simp), H6⟩
          case measure => simp [intOf]; omega
        · have HP : RowKit.Hid (Calls Try.prog 10 #[.pointer (some ⟨p, 0, none⟩), .int .i64 x] wr fun e w' => e = .returned (.int .i64 3) ∧ OrI w w' (.pointer (some ⟨p, 0, none⟩)) (.slice ia iL ic) (.slice oa oL oc) m I O q) := (HI.out.put x).mono (fun e w' h => by simpa only [if_neg hq] using h)
          clear HI hq
          go_wp2_with (first
            | (go_at_call 10; refine HP.out.mono ?_; rintro e w5 ⟨rfl, h5⟩; have H5 := hid h5; clear h5 HP cx)
            | fail)
          go_roundw
          case rel => exact ⟨k + 1, I, O, q, by omega, by omega, by go_num, by rw [← HIL.out]; omega, HE, H5⟩
          case measure => simp [intOf]; omega
    · by_cases hkl : k < n
      · have h200 : 200 ≤ k := by omega
        have hn2 : ¬ ((k : Int) < 200) := by omega
        clear hgo hkn
        obtain ⟨wA, hwA⟩ : ∃ x, x = wr := ⟨_, rfl⟩
        subst hwA
        obtain ⟨ia, ic, hia⟩ := own_form HI.out.i
        subst hia
        obtain ⟨iL, hiL⟩ : ∃ iL, iL = I.length := ⟨_, rfl⟩
        rw [← hiL] at HI ⊢
        have HIL := hid hiL
        have hi2 : iL ≤ 200 := by omega
        clear hiL hIl
        go_wp2
        go_loopw [8] (fun b wr => ∃ (O q : List Int), RowKit.Hid (I = O ++ q) ∧ RowKit.Hid (OrI w wr (.pointer (some ⟨p, 0, none⟩)) (.slice ia iL ic) b m I O q)) (fun b _ => iL - (match b with | .slice _ n _ => n | _ => 0))
        case atStart => exact ⟨O, q, HE, HI⟩
        case round =>
          obtain ⟨O, q, HE, HI⟩ := hrel
          obtain ⟨oa, oc, hoa⟩ := own_form HI.out.o
          subst hoa
          have hle0 : O.length + q.length = iL := by
            have := congrArg List.length HE.out
            rw [List.length_append, ← HIL.out] at this
            omega
          cases q with
          | nil =>
            have HL : RowKit.Hid (Calls Try.prog 14 #[.pointer (some ⟨p, 0, none⟩)] wr fun e w' => e = .returned (.int .i64 0) ∧ wr = w') := HI.out.len
            have hIO : I = O := by rw [HE.out]; simp
            have T1 := own_told HI.out.i
            have T2 := own_told HI.out.o
            rw [← hIO] at T2
            have HSM := hid (SameI_tl wr _ _ I T1 T2)
            have HBL := hid HI.out.bel
            rw [← HIL.out] at HSM
            rw [← hIO, ← HIL.out]
            clear hle0 HI T1 T2 hIO
            go_wp2_with (first
              | (go_at_call 14; refine HL.out.mono ?_; rintro e w5 ⟨rfl, rfl⟩)
              | (go_at_call 15; refine HSM.out.mono ?_; rintro e w6 ⟨rfl, hb6⟩; have HB6 := hid (HBL.out.trans (hb6.mono HBL.out.size)); clear hb6)
              | (go_at_call 9; refine (awake_any _).mono ?_; rintro e w7 ⟨rfl, hb7⟩; have HB7 := hid (HB6.out.trans (hb7.mono HB6.out.size)); clear hb7)
              | fail)
            go_ret
            exact ⟨rfl, HB7.out⟩
          | cons y q =>
            obtain ⟨qn, hqn⟩ : ∃ qn, qn = (y :: q).length := ⟨_, rfl⟩
            have hq0 : 0 < qn := by rw [hqn]; simp
            obtain ⟨oL, hoL⟩ : ∃ oL, oL = O.length := ⟨_, rfl⟩
            rw [← hqn, ← hoL] at hle0
            have hle : oL ≤ iL := by omega
            have HL : RowKit.Hid (Calls Try.prog 14 #[.pointer (some ⟨p, 0, none⟩)] wr fun e w' => e = .returned (nI qn) ∧ wr = w') := by rw [hqn]; exact HI.out.len
            rw [← hoL] at HI ⊢
            have HT : RowKit.Hid (Calls Try.prog 12 #[.pointer (some ⟨p, 0, none⟩)] wr fun e w' => e = .returned (.tuple #[.int .i64 y, .int .i64 0]) ∧ OrI w w' (.pointer (some ⟨p, 0, none⟩)) (.slice ia iL ic) (.slice oa oL oc) m I O q) := (HI.out.take).mono (fun e w' h => by simpa using h)
            have HOL := hid hoL
            have HL0 := hid hle0
            clear hle0 hoL hqn HI
            go_wp2_with (first
              | (go_at_call 14; refine HL.out.mono ?_; rintro e w5 ⟨rfl, rfl⟩)
              | (go_at_call 12; refine HT.out.mono ?_; rintro e w5 ⟨rfl, h5⟩; have H5 := hid h5; clear h5 HT)
              | ((with_reducible refine at_op ⟨some 82, _, _, _, _, _⟩ ?_); go_loud (refine wpList_appZ rfl (.tmp 79) (.tmp 81) rfl w.heap.size (.slice oa oL oc) O [y] rfl (H5.out.o.alloc _) w5.heap.size 0 1 1 rfl rfl (fun j y hy => new_one w5 _ j y hy) (by have := HOL.out; simp; omega) (by have := H5.out.bel.size; simp; omega) ?_); intro v2 w2 k1 k2 k3; have h6 := (H5.out.swap.push k1 k2 k3).swap; obtain ⟨va, vc, hv2⟩ := own_form k1; rw [List.length_append, List.length_singleton, ← HOL.out] at hv2; subst hv2; have H6 := hid h6; clear k1 k2 k3 h6)
              | fail)
            go_roundw
            case rel => exact ⟨O ++ [y], q, hid (by rw [HE.out]; simp), H6⟩
            case measure => have := HL0.out; simp; omega
      · have hn1 : ¬ (k < n) := hkl
        clear hgo hkl hkn
        obtain ⟨wA, hwA⟩ : ∃ x, x = wr := ⟨_, rfl⟩
        subst hwA
        obtain ⟨ia, ic, hia⟩ := own_form HI.out.i
        subst hia
        obtain ⟨iL, hiL⟩ : ∃ iL, iL = I.length := ⟨_, rfl⟩
        rw [← hiL] at HI ⊢
        have HIL := hid hiL
        have hi2 : iL ≤ 200 := by omega
        clear hiL hIl
        go_wp2
        go_loopw [8] (fun b wr => ∃ (O q : List Int), RowKit.Hid (I = O ++ q) ∧ RowKit.Hid (OrI w wr (.pointer (some ⟨p, 0, none⟩)) (.slice ia iL ic) b m I O q)) (fun b _ => iL - (match b with | .slice _ n _ => n | _ => 0))
        case atStart => exact ⟨O, q, HE, HI⟩
        case round =>
          obtain ⟨O, q, HE, HI⟩ := hrel
          obtain ⟨oa, oc, hoa⟩ := own_form HI.out.o
          subst hoa
          have hle0 : O.length + q.length = iL := by
            have := congrArg List.length HE.out
            rw [List.length_append, ← HIL.out] at this
            omega
          cases q with
          | nil =>
            have HL : RowKit.Hid (Calls Try.prog 14 #[.pointer (some ⟨p, 0, none⟩)] wr fun e w' => e = .returned (.int .i64 0) ∧ wr = w') := HI.out.len
            have hIO : I = O := by rw [HE.out]; simp
            have T1 := own_told HI.out.i
            have T2 := own_told HI.out.o
            rw [← hIO] at T2
            have HSM := hid (SameI_tl wr _ _ I T1 T2)
            have HBL := hid HI.out.bel
            rw [← HIL.out] at HSM
            rw [← hIO, ← HIL.out]
            clear hle0 HI T1 T2 hIO
            go_wp2_with (first
              | (go_at_call 14; refine HL.out.mono ?_; rintro e w5 ⟨rfl, rfl⟩)
              | (go_at_call 15; refine HSM.out.mono ?_; rintro e w6 ⟨rfl, hb6⟩; have HB6 := hid (HBL.out.trans (hb6.mono HBL.out.size)); clear hb6)
              | (go_at_call 9; refine (awake_any _).mono ?_; rintro e w7 ⟨rfl, hb7⟩; have HB7 := hid (HB6.out.trans (hb7.mono HB6.out.size)); clear hb7)
              | fail)
            go_ret
            exact ⟨rfl, HB7.out⟩
          | cons y q =>
            obtain ⟨qn, hqn⟩ : ∃ qn, qn = (y :: q).length := ⟨_, rfl⟩
            have hq0 : 0 < qn := by rw [hqn]; simp
            obtain ⟨oL, hoL⟩ : ∃ oL, oL = O.length := ⟨_, rfl⟩
            rw [← hqn, ← hoL] at hle0
            have hle : oL ≤ iL := by omega
            have HL : RowKit.Hid (Calls Try.prog 14 #[.pointer (some ⟨p, 0, none⟩)] wr fun e w' => e = .returned (nI qn) ∧ wr = w') := by rw [hqn]; exact HI.out.len
            rw [← hoL] at HI ⊢
            have HT : RowKit.Hid (Calls Try.prog 12 #[.pointer (some ⟨p, 0, none⟩)] wr fun e w' => e = .returned (.tuple #[.int .i64 y, .int .i64 0]) ∧ OrI w w' (.pointer (some ⟨p, 0, none⟩)) (.slice ia iL ic) (.slice oa oL oc) m I O q) := (HI.out.take).mono (fun e w' h => by simpa using h)
            have HOL := hid hoL
            have HL0 := hid hle0
            clear hle0 hoL hqn HI
            go_wp2_with (first
              | (go_at_call 14; refine HL.out.mono ?_; rintro e w5 ⟨rfl, rfl⟩)
              | (go_at_call 12; refine HT.out.mono ?_; rintro e w5 ⟨rfl, h5⟩; have H5 := hid h5; clear h5 HT)
              | ((with_reducible refine at_op ⟨some 82, _, _, _, _, _⟩ ?_); go_loud (refine wpList_appZ rfl (.tmp 79) (.tmp 81) rfl w.heap.size (.slice oa oL oc) O [y] rfl (H5.out.o.alloc _) w5.heap.size 0 1 1 rfl rfl (fun j y hy => new_one w5 _ j y hy) (by have := HOL.out; simp; omega) (by have := H5.out.bel.size; simp; omega) ?_); intro v2 w2 k1 k2 k3; have h6 := (H5.out.swap.push k1 k2 k3).swap; obtain ⟨va, vc, hv2⟩ := own_form k1; rw [List.length_append, List.length_singleton, ← HOL.out] at hv2; subst hv2; have H6 := hid h6; clear k1 k2 k3 h6)
              | fail)
            go_roundw
            case rel => exact ⟨O ++ [y], q, hid (by rw [HE.out]; simp), H6⟩
            case measure => have := HL0.out; simp; omega
end Go.Proofs.Ytmkajdfajcodjab
