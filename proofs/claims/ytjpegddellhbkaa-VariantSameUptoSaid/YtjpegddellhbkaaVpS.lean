/-
  The contract of variant.Same.
-/
import Derived.Test.YtjpegddellhbkaaVrS
namespace Go.Proofs.Ytjpegddellhbkaa
open Go Go.ChangeShapes Go.WideShapes Go.ChangeAt Go.RowKit

/-- The parts of a list lie in a row. -/
def RowIn (w : World) (a : Option Addr) (l : List Vr) : Prop := ∀ (i : Nat) x, l[i]? = some x → ∃ b o cx, a = some ⟨b, o, none⟩ ∧ b < w.heap.size ∧ AtL w b (o + i * 4) cx ∧ VIn w w.heap.size x cx
theorem RowIn.on {w w' : World} {a : Option Addr} {l : List Vr} (h : RowIn w a l) (hB : Below w.heap.size w w') : RowIn w' a l := fun i x hx => by
  obtain ⟨b, o, cx, h1, h2, h3, h4⟩ := h i x hx
  exact ⟨b, o, cx, h1, Nat.lt_of_lt_of_le h2 hB.size, h3.below hB, VIn.on h4 hB⟩
def EqPost (w : World) (l l' : List Vr) (e : Ending) (w' : World) : Prop := (∃ r : Bool, e = .returned (.bool r) ∧ (r = true ↔ l = l')) ∧ Below w.heap.size w w'
set_option maxHeartbeats 4000000 in
set_option maxRecDepth 100000 in
theorem EqF_any (w : World) (a a' : Option Addr) (L M c c' : Nat) (l l' : List Vr) (hL : L = l.length) (hM : M = l'.length) (hc : L ≤ c ∧ c ≤ 9223372036854775807) (hc' : M ≤ c' ∧ c' ≤ 9223372036854775807) (hp : RowIn w a l) (hp' : RowIn w a' l')
    (ih : ∀ x ∈ l, ∀ (u : Vr) (cs ds : List Value) (W : World), VIn W W.heap.size x cs → VIn W W.heap.size u ds → Calls Try.prog 25 #[.agg cs.toArray, .agg ds.toArray] W (SamePost W x u)) :
    Calls Try.prog 40 #[.slice a L c, .slice a' M c', .func (.func 25) #[] #[]] w (EqPost w l l') := by
  obtain ⟨hc1, hc2⟩ := hc
  obtain ⟨hc3, hc4⟩ := hc'
  have HL := hid hL
  have HM := hid hM
  have HP := hid hp
  have HP' := hid hp'
  have IH := hid ih
  by_cases hLM : L = M
  · subst hLM
    have HB0 := hid (Below.refl w.heap.size w)
    clear hL hM hp hp' ih
    go_enter Try.func40, Try.ntmps40
    go_wp2
    go_loopw [17] (fun i wr => ∃ q : Nat, q ≤ L ∧ i = .int .i64 q ∧ RowKit.Hid (∀ j, j < q → l[j]? = l'[j]?) ∧ RowKit.Hid (Below w.heap.size w wr)) (fun i _ => L - (intOf i).toNat)
    case atStart => exact ⟨0, by omega, rfl, hid (fun j hj => absurd hj (by omega)), HB0⟩
    case round =>
      obtain ⟨q, hq, rfl, HZ, HBr⟩ := hrel
      by_cases hqL : q < L
      · have hx : l[q]? = some (l[q]'(by rw [← HL.out]; exact hqL)) := List.getElem?_eq_getElem _
        generalize l[q]'(by rw [← HL.out]; exact hqL) = x at hx
        have hy : l'[q]? = some (l'[q]'(by rw [← HM.out]; exact hqL)) := List.getElem?_eq_getElem _
        generalize l'[q]'(by rw [← HM.out]; exact hqL) = y at hy
        obtain ⟨b, o, cx, rfl, hb, hat, hinx⟩ := HP.out.on HBr.out q x hx
        obtain ⟨b', o', cy, rfl, hb', hat', hiny⟩ := HP'.out.on HBr.out q y hy
        obtain ⟨ax, kx, hcx, _⟩ := hinx.open
        obtain ⟨ay, ky, hcy, _⟩ := hiny.open
        rw [hcx] at hat
        rw [hcy] at hat'
        have HIX := hid (fun W (hW : Below wr.heap.size wr W) => IH.out x (List.mem_of_getElem? hx) y cx cy W (VIn.on hinx hW) (VIn.on hiny hW))
        rw [hcx, hcy] at HIX
        have HX := hid hx
        have HY := hid hy
        obtain ⟨e0, e1, e2, e3⟩ := row_cells hat
        obtain ⟨f0, f1, f2, f3⟩ := row_cells hat'
        have HAT' := hid hat'
        clear hx hy hat hinx hiny hcx hcy
        generalize x.k = xk at *
        generalize x.n = xn at *
        generalize strI x.s = xs at *
        generalize x.l.length = xl at *
        generalize y.k = yk at *
        generalize y.n = yn at *
        generalize strI y.s = ys at *
        generalize y.l.length = yl at *
        have HB2 := hid (fun o1 o2 => ((Below.refl wr.heap.size wr).alloc (Nat.le_refl _) o1).alloc (show wr.heap.size ≤ (wr.alloc o1).heap.size by simp) o2)
        obtain ⟨g0, g1, g2, g3⟩ := row_cells (HAT'.out.below ((Below.refl wr.heap.size wr).alloc (Nat.le_refl _) (.cells #[.int .i64 xk, .int .i64 xn, .string xs, .slice ax xl kx] 24)))
        go_wp2_with fail
        refine (HIX.out _ (HB2.out _ _)).mono ?_
        rintro e w5 ⟨⟨r, rfl, hr⟩, hb5⟩
        have HB5 := hid (HBr.out.trans (((HB2.out _ _).trans (hb5.mono (HB2.out _ _).size)).mono HBr.out.size))
        have HRR := hid hr
        clear hb5 hr HIX HB2 e0 e1 e2 e3 f0 f1 f2 f3 g0 g1 g2 g3 hat' HAT'
        cases r with
        | true =>
          have hxy := HRR.out.1 rfl
          have HXY := hid hxy
          clear hxy HRR
          go_wp2
          go_roundw
          case rel => exact ⟨q + 1, by omega, by go_num, hid (fun j hj => by
            by_cases ej : j = q
            · subst ej
              rw [HX.out, HY.out, HXY.out]
            · exact HZ.out j (by omega)), HB5⟩
          case measure => simp [intOf]; omega
        | false =>
          have hxy : x ≠ y := fun e => by have := HRR.out.2 e; cases this
          have HN := hid (show l ≠ l' from fun e => by
            have h1 := HX.out
            rw [e, HY.out] at h1
            exact hxy (Option.some.inj h1).symm)
          clear hxy HRR
          go_wp2
          go_ret
          exact ⟨⟨false, rfl, by simp [HN.out]⟩, HB5.out⟩
      · obtain rfl : q = L := by omega
        have he := hid (all_same (HL.out.symm.trans HM.out) (fun j hj => HZ.out j (by rw [HL.out]; exact hj)))
        go_wp2
        go_ret
        exact ⟨⟨true, rfl, by simp [he.out]⟩, HBr.out⟩
  · have d1 : ((L : Int) != (M : Int)) = true := by simp; omega
    have d2 : (L != M) = true := by simp; omega
    have HN := hid (show l ≠ l' from fun e => hLM (by rw [hL, hM, e]))
    clear hL hM hp hp' ih hLM
    go_enter Try.func40, Try.ntmps40
    go_wp2
    go_ret
    exact ⟨⟨false, rfl, by simp [HN.out]⟩, Below.refl _ _⟩
set_option maxHeartbeats 4000000 in
set_option maxRecDepth 100000 in
theorem PSame_any (v : Vr) : ∀ (u : Vr) (cs ds : List Value) (w : World), VIn w w.heap.size v cs → VIn w w.heap.size u ds → Calls Try.prog 25 #[.agg cs.toArray, .agg ds.toArray] w (SamePost w v u) := by
  induction v using Vr.ind with
  | h k n s l ih =>
    intro u cs ds w hv hu
    obtain ⟨k', n', t, l'⟩ := u
    obtain ⟨a, c, rfl, hc, _, hs, _, _, hp⟩ := hv.open
    obtain ⟨a', c', rfl, hc', _, ht, _, _, hp'⟩ := hu.open
    simp only [Vr.k, Vr.n, Vr.s, Vr.l] at *
    obtain ⟨L, hL⟩ : ∃ L, L = l.length := ⟨_, rfl⟩
    obtain ⟨M, hM⟩ : ∃ M, M = l'.length := ⟨_, rfl⟩
    rw [← hL] at hc ⊢
    rw [← hM] at hc' ⊢
    have hB2 : ∀ o o', Below w.heap.size w ((w.alloc o).alloc o') := fun o o' => ((Below.refl w.heap.size w).alloc (Nat.le_refl _) o).alloc (show w.heap.size ≤ (w.alloc o).heap.size by simp) o'
    have HEQ := hid (fun o o' => EqF_any ((w.alloc o).alloc o') a a' L M c c' l l' hL hM hc hc' (RowIn.on (show RowIn w a l from hp) (hB2 o o')) (RowIn.on (show RowIn w a' l' from hp') (hB2 o o')) ih)
    have HB := hid hB2
    have hkk : k ≠ k' → Vr.mk k n s l ≠ Vr.mk k' n' t l' := fun h e => by cases e; exact h rfl
    have hnn : n ≠ n' → Vr.mk k n s l ≠ Vr.mk k' n' t l' := fun h e => by cases e; exact h rfl
    have hss : s ≠ t → Vr.mk k n s l ≠ Vr.mk k' n' t l' := fun h e => by cases e; exact h rfl
    have hst : s ≠ t → ((strI s).toList == (strI t).toList) = false := strI_ne hs ht
    clear hv hu hp hp' ih hL hM hs ht hB2
    by_cases h1 : k = k'
    · subst h1
      by_cases h2 : n = n'
      · subst h2
        by_cases h3 : s = t
        · subst h3
          clear hkk hnn hss hst
          generalize strI s = bs at *
          go_enter Try.func25, Try.ntmps25
          go_wp2_with fail
          refine (HEQ.out _ _).mono ?_
          rintro e w5 ⟨⟨r, rfl, hr⟩, hb5⟩
          have HB5 := hid ((HB.out _ _).trans (hb5.mono (HB.out _ _).size))
          have HR := hid hr
          clear hb5 hr HEQ HB
          go_wp2
          go_ret
          exact ⟨⟨r, rfl, HR.out.trans ⟨fun e => by rw [e], fun e => by cases e; rfl⟩⟩, HB5.out⟩
        · have HN := hid (hss h3)
          have d1 := hst h3
          have d2 : ¬ (strI s).toList = (strI t).toList := by simpa using d1
          clear hkk hnn hss hst h3 HEQ
          generalize strI s = bs at *
          generalize strI t = bt at *
          go_enter Try.func25, Try.ntmps25
          go_wp2
          go_ret
          exact SamePost.no HN.out (HB.out _ _)
      · have HN := hid (hnn h2)
        have d1 : (n == n') = false := by simpa using h2
        clear hkk hnn hss hst h2 HEQ
        generalize strI s = bs at *
        generalize strI t = bt at *
        go_enter Try.func25, Try.ntmps25
        go_wp2
        go_ret
        exact SamePost.no HN.out (HB.out _ _)
    · have HN := hid (hkk h1)
      have d1 : (k == k') = false := by simpa using h1
      clear hkk hnn hss hst h1 HEQ
      generalize strI s = bs at *
      generalize strI t = bt at *
      go_enter Try.func25, Try.ntmps25
      go_wp2
      go_ret
      exact SamePost.no HN.out (HB.out _ _)
end Go.Proofs.Ytjpegddellhbkaa
