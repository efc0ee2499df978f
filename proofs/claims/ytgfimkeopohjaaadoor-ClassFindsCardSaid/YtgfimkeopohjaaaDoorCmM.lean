/-
  The program's Method; slices.Clone at instructions.
-/
import Derived.Test.YtgfimkeopohjaaaDoorClY
namespace Go.Proofs.YtgfimkeopohjaaaDoor
open Go Go.ChangeShapes Go.WideShapes Go.ChangeAt Go.RowKit

theorem fi_len (ls : List Ins) : (ls.flatMap insc).length = ls.length * 3 := flatK_len (insc_k ls)
theorem fi_one (ls : List Ins) : ∀ u ∈ ls.flatMap insc, u.oneCell' = true := fun u hu => by
  obtain ⟨x, _, hx⟩ := List.mem_flatMap.1 hu
  simp only [insc, List.mem_cons, List.not_mem_nil, or_false] at hx
  rcases hx with rfl | rfl | rfl <;> rfl
theorem fi_news {W : World} {B b o : Nat} {ls : List Ins} (h : RwI W B (some ⟨b, o, none⟩) ls) : ∀ j u, (ls.flatMap insc)[j]? = some u → W.cell? ((⟨b, o, none⟩ : Addr).add j) = some u := fun j u hu => by
  have hj := (List.getElem?_eq_some_iff.1 hu).1
  rw [fi_len] at hj
  have hi : j / 3 < ls.length := by omega
  have e : j / 3 * 3 + j % 3 = j := by omega
  have h2 := h.rows b o rfl (j / 3) _ (List.getElem?_eq_getElem hi) (j % 3) u (by rw [← flatK_get (f := insc) (k := 3) (Nat.mod_lt _ (by omega)) (insc_k ls) (List.getElem?_eq_getElem hi), e]; exact hu)
  rw [Nat.add_assoc, e] at h2
  by_cases hj0 : j = 0
  · subst hj0
    simpa [Addr.add] using h2
  · simpa [Addr.add, hj0] using h2
set_option maxRecDepth 100000 in
theorem infoIn : (Tryd.prog.info? 61).map (fun i => (i.zero, i.size, i.bytes)) = some (some (.agg #[.int .i64 0, .int .i64 0, .int .i64 0]), 3, 24) := by kernel_rfl
set_option maxRecDepth 100000 in
theorem rowi_nil (n k : Nat) (W : World) : (binOp .eql 56 (.slice none n k) (.slice none 0 0)).run Tryd.prog W = .ok (.bool true) W := by kernel_rfl
set_option maxRecDepth 100000 in
theorem rowi_not (a : Addr) (n k : Nat) (W : World) : (binOp .eql 56 (.slice (some a) n k) (.slice none 0 0)).run Tryd.prog W = .ok (.bool false) W := by kernel_rfl
/-- New memory that holds the instructions. -/
def RowI (w : World) (ls : List Ins) (v : Value) (w' : World) : Prop := w'.ownsRow w.heap.size 61 3 v ls.length (ls.flatMap insc) ∧ Below w.heap.size w w'
set_option maxRecDepth 100000 in
theorem CloneI_any (w : World) (a : Option Addr) (k n : Nat) (ls : List Ins) (hn : n = ls.length) (hR : RwI w w.heap.size a ls) (hn2 : n ≤ 1000000) :
    Calls Tryd.prog 42 #[.slice a n k] w fun e w' => ∃ v, e = .returned v ∧ RowI w ls v w' := by
  cases a with
  | none =>
    have hx : ls = [] := by
      cases ls with
      | nil => rfl
      | cons x r => obtain ⟨b, o, h, _⟩ := hR.at_ (by simp); cases h
    subst hx
    clear hR hn hn2
    have hq := rowi_nil
    go_enter Tryd.func42, Tryd.ntmps42
    go_wp2
    go_ret
    exact ⟨_, rfl, World.ownsRow_nil _ _ _ _, Below.refl _ _⟩
  | some a =>
    obtain ⟨i0, hi, hz0, hz1, hz2⟩ := info_parts infoIn
    have hi' := hid hi
    have hz0' := hid hz0
    have hz1' := hid hz1
    have hz2' := hid hz2
    have hq := rowi_not
    have hnews : ∀ o : Obj, ∀ (j : Nat) (u : Value), (ls.flatMap insc)[j]? = some u → (w.alloc o).cell? (a.add j) = some u := fun o j u hu => by
      have hj := (List.getElem?_eq_some_iff.1 hu).1
      rw [fi_len] at hj
      obtain ⟨b, o', he, _⟩ := hR.at_ (by omega)
      cases he
      exact fi_news (hR.kept ((Below.refl _ _).alloc (Nat.le_refl _) o)) j u hu
    have HNW := hid hnews
    have HN := hid hn
    have HL := hid (show (ls.flatMap insc).length = n * 3 by rw [fi_len, hn])
    clear hi hz0 hz1 hz2 hR hnews hn
    go_enter Tryd.func42, Tryd.ntmps42
    go_wp2_with (at_builtin; refine wpList_append_own _ (o := ⟨some 7, _, _, _, _, _⟩) rfl (.tmp 5) (.tmp 6) 56 rfl w.heap.size 61 i0 (.agg #[.int .i64 0, .int .i64 0, .int .i64 0]) 3 24 Tryd.underlying56 hi'.out hz0'.out hz1'.out hz2'.out rfl (by decide) (.slice (some ⟨w.heap.size, 0, none⟩) 0 0) 0 [] rfl (World.ownsRow_made w #[] 0 (Nat.le_refl _) (Nat.zero_le _) rfl) a n k (ls.flatMap insc) rfl HL.out (HNW.out _) (fi_one ls) (by unfold maxLen; omega) (by omega) (by simp) ?_; intro v5 w5 hown5 hgrow5 hnil5)
    have HO := hid hown5
    have HG := hid hgrow5
    clear hown5 hgrow5 hnil5
    go_ret
    refine ⟨_, rfl, ?_, ((Below.refl _ _).alloc (Nat.le_refl _) _).grown HG.out (by simp) (fun k hk => by simp [Value.ownBlock] at hk; omega)⟩
    have := HO.out
    rw [Nat.zero_add, List.nil_append, HN.out] at this
    exact this
/-- What Method tells. -/
def MetP (w : World) (ms : List (List Ins)) (i : Int) (e : Ending) (w' : World) : Prop :=
  if 0 ≤ i ∧ i < ms.length then ∃ v, e = .returned (.tuple #[v, .int .i64 0]) ∧ RowI w (ms.getD i.toNat []) v w' else e = .returned (.tuple #[.slice none 0 0, .int .i64 19]) ∧ Below w.heap.size w w'
set_option maxHeartbeats 1000000 in
set_option maxRecDepth 100000 in
theorem Method_any (c : Cls) (vf vm : Value) (i : Int) (w : World) (h : ClC w w.heap.size c vf vm) (hl : ∀ l ∈ c.methods, l.length ≤ 1000000) :
    Calls Tryd.prog 26 #[.agg (clc c vf vm).toArray, .int .i64 i] w (MetP w c.methods i) := by
  obtain ⟨w1, hw1⟩ : ∃ w1, w1 = w.alloc (.cells (clc c vf vm).toArray 38) := ⟨_, rfl⟩
  have hb1 : Below w.heap.size w w1 := by rw [hw1]; exact (Below.refl _ _).alloc (Nat.le_refl _) _
  have hc1 : InC w1 w.heap.size c vf vm := by rw [hw1]; exact heap_alloc_new _ _
  have h1 := h.on hb1
  obtain ⟨am, cm, rfl, hM, hMc, hMm⟩ := h1.m
  have HI := hid h1.id
  have c18 := hc1.cm h1.id
  have HB1 := hid hb1
  have HM := hid hM
  have HW := hid hw1
  clear hM h h1 hw1 hb1 hc1
  obtain ⟨ms, hms⟩ : ∃ n, n = c.methods := ⟨_, rfl⟩
  obtain ⟨nm, hnm⟩ : ∃ n, n = ms.length := ⟨_, rfl⟩
  have HNM := hid hnm
  rw [← hms] at hl HM c18 hMc HW ⊢
  rw [← hnm] at c18 hMc HW ⊢
  have HLL := hid hl
  clear hl hms
  by_cases h1 : i < 0
  · have d1 : decide (i < 0) = true := by simpa using h1
    have HX := hid (show ¬ (0 ≤ i ∧ i < (ms.length : Int)) by omega)
    clear h1 hnm
    go_enter Tryd.func26, Tryd.ntmps26
    go_upto_region 1 with (fail)
    change Code.wp _ _ _ _ (w.alloc (.cells (clc c vf (.slice am nm cm)).toArray 38))
    rw [← HW.out]
    go_wp2
    go_ret2
    unfold MetP
    rw [if_neg HX.out]
    exact ⟨rfl, HB1.out⟩
  have d1 : decide (i < 0) = false := by simpa using h1
  by_cases h2 : (nm : Int) ≤ i
  · have d2 : decide ((nm : Int) ≤ i) = true := by simpa using h2
    have HX := hid (show ¬ (0 ≤ i ∧ i < (ms.length : Int)) by omega)
    clear h1 h2 hnm
    go_enter Tryd.func26, Tryd.ntmps26
    go_upto_region 1 with (fail)
    change Code.wp _ _ _ _ (w.alloc (.cells (clc c vf (.slice am nm cm)).toArray 38))
    rw [← HW.out]
    go_wp2
    go_ret2
    unfold MetP
    rw [if_neg HX.out]
    exact ⟨rfl, HB1.out⟩
  have d2 : decide ((nm : Int) ≤ i) = false := by simpa using h2
  obtain ⟨q, rfl⟩ : ∃ q : Nat, i = q := ⟨i.toNat, by omega⟩
  have hq : q < nm := by omega
  have HX := hid (show 0 ≤ (q : Int) ∧ (q : Int) < (ms.length : Int) by omega)
  have hx : ms[q]? = some (ms[q]'(by omega)) := List.getElem?_eq_getElem _
  generalize ms[q]'(by omega) = l at hx
  obtain ⟨b, o, rfl, _⟩ := HM.out.at_ (by omega)
  obtain ⟨v, hv, al, cl, rfl, hl1, hl2, hl3, hl4⟩ := HM.out.rows b o rfl q l hx
  have HC := hid (CloneI_any w1 al cl l.length l rfl hl1 (HLL.out l (List.mem_of_getElem? hx)))
  have HD := hid (show ms.getD (q : Int).toNat [] = l by simp [hx])
  clear h1 h2 hnm hx hl1 hl2 hl3 hl4
  go_enter Tryd.func26, Tryd.ntmps26
  go_upto_region 1 with (fail)
  change Code.wp _ _ _ _ (w.alloc (.cells (clc c vf (.slice (some ⟨b, o, none⟩) nm cm)).toArray 38))
  rw [← HW.out]
  go_wp2_with fail
  refine HC.out.mono ?_
  rintro e w2 ⟨u, rfl, hu⟩
  have HU := hid hu
  clear hu
  go_wp2
  go_ret2
  unfold MetP
  rw [if_pos HX.out, HD.out]
  exact ⟨_, rfl, ⟨HU.out.1.1, by
    have h := HU.out.1.2
    rcases h with h | ⟨g, cap, cur, h1, h2, h3⟩
    · exact .inl h
    · exact .inr ⟨g, cap, cur, h1, Nat.le_trans HB1.out.size h2, h3⟩⟩, HB1.out.trans (HU.out.2.mono HB1.out.size)⟩
end Go.Proofs.YtgfimkeopohjaaaDoor
