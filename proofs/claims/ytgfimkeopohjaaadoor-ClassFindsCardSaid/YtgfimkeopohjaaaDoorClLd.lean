/- WrSame ClLe ClD Lent ClLd in one -/
import Derived.Test.YtgfimkeopohjaaaDoorWrA
import Derived.Test.YtgfimkeopohjaaaDoorClL
import Derived.Test.YtgfimkeopohjaaaDoorCmR
import Derived.Test.YtgfimkeopohjaaaDoorClEn
import Derived.Test.YtgfimkeopohjaaaDoorClB
import Derived.Test.YtgfimkeopohjaaaDoorClT
namespace Go.Proofs.YtgfimkeopohjaaaDoor
open Go Go.ChangeShapes Go.WideShapes Go.ChangeAt Go.RowKit

set_option maxRecDepth 100000 in
/-- SameBytes: two rows of bytes. -/
theorem SameBytes_any (w : World) (a b : Option Addr) (ka kb n m : Nat) (xs ys : List Int) (hn : n = xs.length) (hm : m = ys.length) (ha : Bs w w.heap.size a xs) (hb : Bs w w.heap.size b ys) (hn2 : n ≤ 140737488351232) (hm2 : m ≤ 140737488351232) :
    Calls Tryd.prog 15 #[.slice a n ka, .slice b m kb] w fun e w' => e = .returned (.bool (xs == ys)) ∧ Below w.heap.size w w' := by
  by_cases hnm : n = m
  · subst hnm
    have HA := hid ha
    have HB := hid hb
    have HN := hid hn
    have HM := hid hm
    clear ha hb hn hm
    go_enter Tryd.func15, Tryd.ntmps15
    go_wp2
    go_loopw [5] (fun i wr => ∃ q : Nat, q ≤ n ∧ i = .int .i64 q ∧ RowKit.Hid (xs.take q = ys.take q) ∧ RowKit.Hid (Below w.heap.size w wr)) (fun i _ => n - (intOf i).toNat)
    case atStart => exact ⟨0, by omega, rfl, hid rfl, hid (Below.refl _ _)⟩
    case round =>
      obtain ⟨q, hq1, rfl, HT, HW⟩ := hrel
      by_cases hql : q < n
      · obtain ⟨g, o, rfl, _⟩ := HA.out.some (by have := HN.out; omega)
        obtain ⟨g2, o2, rfl, _⟩ := HB.out.some (by have := HM.out; omega)
        have c1 := (HA.out.below HW.out).cell (j := q) (by have := HN.out; omega)
        have c2 := (HB.out.below HW.out).cell (j := q) (by have := HM.out; omega)
        have e1 : xs[q]? = some (xs.getD q 0) := getD_at (by have := HN.out; omega)
        have e2 : ys[q]? = some (ys.getD q 0) := getD_at (by have := HM.out; omega)
        generalize xs.getD q 0 = x at *
        generalize ys.getD q 0 = y at *
        have E1 := hid e1
        have E2 := hid e2
        clear e1 e2
        by_cases hxy : x = y
        · subst hxy
          go_wp2
          go_region
          all_goals
            go_wp2
            go_roundw
            case rel => exact ⟨q + 1, by omega, by go_num, hid (by rw [List.take_add_one, List.take_add_one, HT.out, E1.out, E2.out]), hid HW.out.drew⟩
            case measure => simp [intOf]; omega
        · have hd : (x != y) = true := by simpa using hxy
          have hne : (xs == ys) = false := by
            rw [beq_eq_false_iff_ne]
            intro e
            have h1 := E1.out
            rw [e, E2.out] at h1
            exact hxy (Option.some.inj h1).symm
          have HNE := hid hne
          clear hxy hne
          go_wp2
          go_region
          all_goals
            go_wp2
            go_ret
            exact ⟨ret_bool HNE.out.symm, HW.out.drew⟩
      · obtain rfl : q = n := by omega
        go_wp2
        go_ret
        have h1 := HT.out
        rw [List.take_of_length_le (by have := HN.out; omega), List.take_of_length_le (by have := HM.out; omega)] at h1
        exact ⟨ret_bool (by rw [h1]; simp), HW.out⟩
  · have hne : (xs == ys) = false := by
      rw [beq_eq_false_iff_ne]
      intro e
      rw [e] at hn; omega
    have HNE := hid hne
    have hd : (n : Int) ≠ m := by omega
    have hd2 : ((n : Int) != (m : Int)) = true := by simpa using hd
    have hd3 : (n != m) = true := by simpa using hnm
    clear hne hnm hd ha hb hn hm
    go_enter Tryd.func15, Tryd.ntmps15
    go_wp2
    go_ret
    exact ⟨ret_bool HNE.out.symm, Below.refl _ _⟩
end Go.Proofs.YtgfimkeopohjaaaDoor

namespace Go.Proofs.YtgfimkeopohjaaaDoor
open Go Go.ChangeShapes Go.WideShapes Go.ChangeAt Go.RowKit

theorem RwC.ids {W : World} {B : Nat} {a : Option Addr} {l : List Cls} (h : RwC W B a l) : IdsM l := by
  intro c hc
  obtain ⟨i, hi⟩ := List.mem_iff_getElem?.1 hc
  obtain ⟨b, o, rfl, _⟩ := h.at_ (by have := (List.getElem?_eq_some_iff.1 hi).1; omega)
  obtain ⟨vf, vm, _, hcc⟩ := h.rows b o rfl i c hi
  obtain ⟨af, cf, _, hf, _⟩ := hcc.f
  exact ⟨hcc.id, hf.len⟩
/-- What Encode answers: the form of a right module, nothing of another. -/
def encM (l : List Cls) : List Int := if (chkM l).2 = 0 then formM l else []
def EnP (w : World) (l : List Cls) (e : Ending) (w' : World) : Prop :=
  ∃ a c, e = .returned (.tuple #[.slice a (encM l).length c, .int .i64 (chkM l).2]) ∧ Bs w' w'.heap.size a (encM l) ∧ (encM l).length ≤ c ∧ c ≤ 9223372036854775807 ∧ Below w.heap.size w w'
def EnC (w0 : World) : Prop := ∀ (l : List Cls) (ad : Option Addr) (N cap : Nat) (w : World), Below w0.heap.size w0 w → RwC w w.heap.size ad l → N = l.length → N ≤ cap → cap ≤ 9223372036854775807 → SmM l →
  Calls Tryd.prog 14 #[.agg #[.slice ad N cap]] w (EnP w l)
set_option maxRecDepth 100000 in
set_option maxHeartbeats 8000000 in
theorem ClassEncodes_any (w : World) (HE : EnC w) (HA : AwM w) (l : List Cls) (ad : Option Addr) (N cap : Nat) (hF : RwC w w.heap.size ad l) (hN : N = l.length) (hc : N ≤ cap) (hcm : cap ≤ 9223372036854775807) :
    Calls Tryd.prog 4 #[.agg #[.slice ad N cap]] w fun e w' => e = .returned (.bool true) ∧ Below w.heap.size w w' := by
  obtain ⟨w1, hw1⟩ : ∃ w1, w1 = w.alloc (.cells #[.slice ad N cap] 24) := ⟨_, rfl⟩
  have hb1 : Below w.heap.size w w1 := by rw [hw1]; exact (Below.refl _ _).alloc (Nat.le_refl _) _
  have hm1 : Boxed w1 w.heap.size 24 (.slice ad N cap) := by rw [hw1]; exact Boxed.new w _ _
  have HIDS := hid hF.ids
  have HF := hid (hF.on hb1)
  have HN := hid hN
  have HB1 := hid hb1
  have HW := hid hw1
  have HM := hid hm1
  have cm0 := hm1.cell
  have HAW := hid HA
  have HEE := hid HE
  clear hF hN hb1 hm1 hw1 HE HA
  go_enter Tryd.func4, Tryd.ntmps4
  go_upto_region 1 with (fail)
  change Code.wp _ _ _ _ (w.alloc (.cells #[.slice ad N cap] 24))
  rw [← HW.out]
  go_wp2_with fail
  refine (great_any w1 ad N cap l HF.out HN.out hc).mono ?_
  rintro e w2 ⟨r, rfl, hr, hb2⟩
  have HB2 := hid hb2
  cases r with
  | true =>
    clear hr hb2 cm0
    go_wp2_with fail
    refine (HAW.out w2 (HB1.out.trans (HB2.out.mono HB1.out.size))).mono ?_
    rintro e w3 ⟨rfl, hb3⟩
    have HB3 := hid (HB1.out.trans ((HB2.out.trans (hb3.mono HB2.out.size)).mono HB1.out.size))
    clear hb3
    go_wp2
    go_ret
    exact ⟨rfl, HB3.out⟩
  | false =>
    have HSM := hid (hr rfl)
    clear hr hb2 cm0
    have hN12 : N ≤ 12 := by have h := HSM.out.1; have h2 := HN.out; omega
    have cm2 : w2.cell? ⟨w.heap.size, 0, none⟩ = some (.slice ad N cap) := Boxed.cell ((HB2.out.block w.heap.size HM.out.lt).trans HM.out)
    go_wp2_with fail
    refine (HEE.out l ad N cap w2 (HB1.out.trans (HB2.out.mono HB1.out.size)) (HF.out.on HB2.out) HN.out hc hcm HSM.out).mono ?_
    rintro e w3 ⟨a3, k3, rfl, hbs3, hk3, hk4, hb3⟩
    have HBS3 := hid hbs3
    have HB3 := hid (HB2.out.trans (hb3.mono HB2.out.size))
    clear hb3 cm2 hbs3
    have cm3 : w3.cell? ⟨w.heap.size, 0, none⟩ = some (.slice ad N cap) := Boxed.cell ((HB3.out.block w.heap.size HM.out.lt).trans HM.out)
    obtain ⟨ne, hne⟩ : ∃ n, n = (encM l).length := ⟨_, rfl⟩
    rw [← hne] at hk3 ⊢
    have HNE := hid hne
    clear hne
    go_wp2_with fail
    refine (RCheckM_any w3 ad N cap l (HF.out.on HB3.out) HN.out (by omega) hc (fun c hcl => by have := (HSM.out.2 c hcl).1; omega)).mono ?_
    rintro e w4 ⟨rfl, hb4⟩
    have HBS4 := hid ((HBS3.out.below hb4).mono hb4.size)
    have HB4 := hid (HB3.out.trans (hb4.mono HB3.out.size))
    clear hb4 cm3
    have cm4 : w4.cell? ⟨w.heap.size, 0, none⟩ = some (.slice ad N cap) := Boxed.cell ((HB4.out.block w.heap.size HM.out.lt).trans HM.out)
    obtain ⟨c1, hc1⟩ : ∃ x, x = (chkM l).1 := ⟨_, rfl⟩
    obtain ⟨c2, hc2⟩ : ∃ x, x = (chkM l).2 := ⟨_, rfl⟩
    rw [← hc1, ← hc2]
    have HC2 := hid hc2
    clear hc1 hc2
    by_cases h20 : c2 = 0
    · subst h20
      have hcm0 : (chkM l).2 = 0 := HC2.out.symm
      have hen : encM l = formM l := by unfold encM; rw [if_pos hcm0]
      have HEN := hid hen
      have HSMALL := hid (form_small hcm0 HIDS.out)
      clear hen hcm0
      go_wp2_with fail
      refine (REncode_any w4 ad N cap l (HF.out.on HB4.out) HN.out hc hcm HSMALL.out).mono ?_
      rintro e w5 ⟨v5, rfl, hown, hb5⟩
      obtain ⟨a5, c5, rfl⟩ := own_form hown
      have HB5 := hid (HB4.out.trans (hb5.mono HB4.out.size))
      have HSB := hid (SameBytes_any w5 a3 a5 k3 c5 ne (formM l).length (formM l) (formM l) (by rw [HNE.out, HEN.out]) rfl (by have h := HBS4.out; rw [HEN.out] at h; exact (h.below hb5).mono hb5.size) (own_bs hown) (by have := HSMALL.out; have := HNE.out; rw [HEN.out] at this; omega) (by have := HSMALL.out; omega))
      clear hown hb5 cm4
      go_wp2_with fail
      refine HSB.out.mono ?_
      rintro e w6 ⟨rfl, hb6⟩
      have HB6 := hid (HB5.out.trans (hb6.mono HB5.out.size))
      clear hb6 HSB
      rw [show (formM l == formM l) = true by simp]
      go_wp2_with fail
      refine (HAW.out w6 (HB1.out.trans (HB6.out.mono HB1.out.size))).mono ?_
      rintro e w7 ⟨rfl, hb7⟩
      have HB7 := hid (HB1.out.trans ((HB6.out.trans (hb7.mono HB6.out.size)).mono HB1.out.size))
      clear hb7
      go_wp2
      go_ret
      exact ⟨rfl, HB7.out⟩
    · have hne2 : (c2 == 0) = false := by simpa using h20
      have hen : ne = 0 := by
        have h := HNE.out
        unfold encM at h
        rw [if_neg (fun h2 => h20 (HC2.out.trans h2))] at h
        exact h
      subst hen
      clear cm4
      go_wp2_with fail
      refine (HAW.out w4 (HB1.out.trans (HB4.out.mono HB1.out.size))).mono ?_
      rintro e w7 ⟨rfl, hb7⟩
      have HB7 := hid (HB1.out.trans ((HB4.out.trans (hb7.mono HB4.out.size)).mono HB1.out.size))
      clear hb7
      go_wp2
      go_ret
      exact ⟨rfl, HB7.out⟩
end Go.Proofs.YtgfimkeopohjaaaDoor

namespace Go.Proofs.YtgfimkeopohjaaaDoor
open Go Go.ChangeShapes Go.WideShapes Go.ChangeAt Go.RowKit

/-- What Decode tells. -/
def DecM (w : World) (b : List Int) (e : Ending) (w' : World) : Prop :=
  ∃ v, e = .returned (.tuple #[.agg #[v], .bool (decM b).2]) ∧ SlC w' w'.heap.size v (decM b).1 ∧ Below w.heap.size w w'
/-- Under way: the result's block, the module's, and the classes that there are. -/
structure DS (w W : World) (vC : Value) (rs : List C3) : Prop where
  hw : Below w.heap.size w W
  b0 : Boxed W w.heap.size 24 nilV
  b1 : Boxed W (w.heap.size + 1) 24 vC
  own : OwC (w.heap.size + 2) W vC rs
theorem DS.on {w W W' : World} {vC : Value} {rs : List C3} (h : DS w W vC rs) (hB : Below W.heap.size W W') : DS w W' vC rs :=
  ⟨h.hw.trans (hB.mono h.hw.size), (hB.block _ h.b0.lt).trans h.b0, (hB.block _ h.b1.lt).trans h.b1, h.own.kept (fun b _ hb => hB.block b hb) hB.size⟩
theorem DS.sz {w W : World} {vC : Value} {rs : List C3} (h : DS w W vC rs) : w.heap.size + 2 ≤ W.heap.size := by have := h.b1.lt; omega
theorem DS.vb {w W : World} {vC : Value} {rs : List C3} (h : DS w W vC rs) : SB (fun b => b < W.heap.size) vC := (own_sb h.own.own).mono fun _ h => h.2
/-- A class more. -/
theorem DS.push {w wr wa w6 : World} {vC v5 : Value} {rs : List C3} {r : C3} (h : DS w wr vC rs) (hu : ZC (fun b => w.heap.size + 2 ≤ b ∧ Ex wr vC b) wr r.1 r.2.1 r.2.2) (ha : Below wr.heap.size wr wa) (hgr : wa.grownBy w6 vC.ownBlock) (hat : v5.ownBlock = vC.ownBlock ∨ v5.ownBlock = some wa.heap.size)
    (hown : w6.ownsRow (w.heap.size + 2) 38 19 v5 (rs.length + 1) (rs.flatMap c3c ++ c3c r)) : Boxed w6 (w.heap.size + 1) 24 vC ∧ DS w (w6.setCell ⟨w.heap.size + 1, 0, none⟩ v5) v5 (rs ++ [r]) := by
  have hob : ∀ k, vC.ownBlock = some k → w.heap.size + 2 ≤ k := fun k hk => (own_sb h.own.own k hk).1
  have hl0 := h.b0.lt
  have hl1 := h.b1.lt
  have hs := ha.size
  have k0 : Boxed w6 w.heap.size 24 nilV := ((hgr.block _ (by omega) (fun e => by have := hob _ e.symm; omega)).trans (ha.block _ hl0)).trans h.b0
  have k1 : Boxed w6 (w.heap.size + 1) 24 vC := ((hgr.block _ (by omega) (fun e => by have := hob _ e.symm; omega)).trans (ha.block _ hl1)).trans h.b1
  have hz : w6.heap.size ≤ (w6.setCell ⟨w.heap.size + 1, 0, none⟩ v5).heap.size := by rw [World.setCell]; simp
  refine ⟨k1, ?_, ?_, k1.set v5, ?_⟩
  · exact ((h.hw.trans (ha.mono h.hw.size)).grown hgr (Nat.le_trans h.hw.size ha.size) (fun k hk => by have := hob k hk; omega)).setCell (by show w.heap.size ≤ w.heap.size + 1; omega) v5
  · exact (Below.heap_setCell _ _ _ _ (by show w.heap.size ≠ w.heap.size + 1; omega)).trans k0
  · exact (OwC.push h.own.all hu (Fr.of_below ha) hgr hat hown).kept (fun b hb _ => Below.heap_setCell _ _ _ _ (by show b ≠ w.heap.size + 1; omega)) hz
theorem decN_len (b : List Int) : ∀ n, (decN b n).1.length = n
  | 0 => rfl
  | n + 1 => by
    have h := decN_len b n
    unfold decN
    simp [h]
theorem metTo_len (b : List Int) (k : Nat) : ∀ n, (metTo b k n).1.length = n
  | 0 => rfl
  | n + 1 => by
    have h := metTo_len b k n
    unfold metTo
    simp [h]
theorem cdec_ret {Q : Ending → World → Prop} {a : Act} {W : World} {g : Nat} {u v : Value} (h2 : a.tmps.getD 2 undef = .pointer (some ⟨g, 0, none⟩)) (h3 : a.tmps.getD 3 undef = u) (hd : a.defers = [])
    (hg : Boxed W g 24 v) (h : Q (.returned (.tuple #[.agg #[v], u])) W) : bodyPost Tryd.prog Tryd.f19 Q .ret a W := by
  refine bodyPost_ret (v := .tuple #[.agg #[v], u]) ?_ hd h
  rw [results_cell_tmp (fn := Tryd.f19) (p := 2) (q := 3) rfl a.tmps W g 24 #[v] (0, 0) _ h2 hg Tryd.underlying24 rfl (by kernel_rfl), h3]
theorem DecM.none {w W : World} {b : List Int} (h : decM b = ([], false)) (hB : Below w.heap.size w W) : DecM w b (.returned (.tuple #[.agg #[nilV], .bool false])) W := by
  refine ⟨nilV, by rw [h], ?_, hB⟩
  rw [h]
  exact ⟨Option.none, 0, rfl, ⟨fun h => absurd h (by simp), fun b o h => by cases h⟩, Nat.le_refl _, by omega⟩
set_option maxRecDepth 100000 in
set_option maxHeartbeats 8000000 in
theorem RDecode_any (w : World) (ad : Option Addr) (cap n : Nat) (b : List Int) (hbs : Bs w w.heap.size ad b) (hn : n = b.length) (hby : Byt b) (_hc : n ≤ cap) (hl : n ≤ 1000000) :
    Calls Tryd.prog 19 #[.slice ad n cap] w (DecM w b) := by
  obtain ⟨w2, hw2⟩ : ∃ w2, w2 = (w.alloc (.cells #[nilV] 24)).alloc (.cells #[nilV] 24) := ⟨_, rfl⟩
  have hs2 : w2.heap.size = w.heap.size + 2 := by rw [hw2]; simp
  have hd2 : DS w w2 nilV [] := by
    subst hw2
    have h1 : Below w.heap.size w (w.alloc (.cells #[nilV] 24)) := (Below.refl _ _).alloc (Nat.le_refl _) _
    have e1 : (w.alloc (.cells #[nilV] 24)).heap.size = w.heap.size + 1 := by simp
    have h2 := (Below.refl (w.alloc (.cells #[nilV] 24)).heap.size (w.alloc (.cells #[nilV] 24))).alloc (Nat.le_refl _) (.cells #[nilV] 24)
    have h3 := Boxed.new (w.alloc (.cells #[nilV] 24)) 24 nilV
    rw [e1] at h3
    exact ⟨h1.trans (h2.mono h1.size), (h2.block w.heap.size (by omega)).trans (Boxed.new w _ _), h3, OwC.nil _ _⟩
  have CA := hid (fun (W : World) (hB : Below w.heap.size w W) (i : Nat) => at_any W ad cap n i b ((hbs.below hB).mono hB.size) hn hby)
  have CG := hid (fun (W : World) (hB : Below w.heap.size w W) (k : Nat) (hk : k ≤ 100000000) => guid_any W ad cap n k b ((hbs.below hB).mono hB.size) hn hby hk)
  have HN := hid hn
  have HBY := hid hby
  have HBS := hid hbs
  have HW := hid hw2
  have HD2 := hid hd2
  have B0 := getD_byt hby 0
  clear hbs hn hby hw2 hd2 hs2
  go_enter Tryd.func19, Tryd.ntmps19
  go_upto_region 3 with (fail)
  change Code.wp _ _ _ _ ((w.alloc (.cells #[nilV] 24)).alloc (.cells #[nilV] 24))
  rw [← HW.out]
  go_wp2
  go_loopw [5, 6, 7, 8, 9, 10, 11, 12, 13, 14] (fun p5 p6 _ _ _ _ _ _ _ _ wr => ∃ (j k : Nat) (vC : Value) (rs : List C3), j ≤ 255 ∧ (j = 0 ∨ k ≤ 2000000) ∧ k ≤ 2000000 ∧ p5 = .int .i64 k ∧ p6 = .int .i64 j ∧ RowKit.Hid (decN b j = (rs.map (·.1), k)) ∧ RowKit.Hid (rnds b (255 - j) j = rnds b 255 0) ∧ RowKit.Hid (DS w wr vC rs)) (fun _ p _ _ _ _ _ _ _ _ _ => 255 - (intOf p).toNat)
  case atStart => exact ⟨0, 1, _, [], by omega, by omega, by omega, rfl, rfl, hid rfl, hid rfl, HD2⟩
  case round =>
    obtain ⟨j, k, vC, rs, hj, _, hk, rfl, rfl, HDN, HRN, HDS⟩ := hrel
    have hw0 := HDS.out.hw
    by_cases hj0 : (j : Int) < b.getD 0 0
    · by_cases hk0 : k < n
      · have hdj : decide ((j : Int) < b.getD 0 0) = true := by simpa using hj0
        have hdk : decide ((k : Int) < (n : Int)) = true := by simp; omega
        go_wp2_with fail
        refine (CA.out wr hw0 0).mono ?_
        rintro e _ ⟨rfl, rfl⟩
        go_wp2_with fail
        refine (CG.out wr hw0 k (by omega)).mono ?_
        rintro e wx ⟨rfl, hbx⟩
        obtain ⟨c0, hc0⟩ : ∃ c : Cls, c = ⟨guidC b k, [], 0, []⟩ := ⟨_, rfl⟩
        have hl16 : c0.id.length = 16 := by rw [hc0]; exact gdC_len _ _ _
        have HDX := hid (HDS.out.on hbx)
        have HLN := hid (clc_len (vf := nilV) (vm := nilV) hl16)
        have HIN := hid (show (Tryd.prog.info? 38).map (·.size) = some (clc c0 nilV nilV).toArray.size by rw [List.size_toArray, HLN.out]; exact sizeC)
        have HON := hid (show (clc c0 nilV nilV).toArray.all (·.oneCell') = true from clc_one rfl rfl)
        have H16 := hid hl16
        have HC0 := hid hc0
        clear hbx hl16 hc0 HDS
        go_upto_region 7 with (first
          | ((with_reducible refine at_op ⟨some 32, _, _, _, _, _⟩ ?_); refine wpList_run rfl (.agg (clc c0 nilV nilV).toArray) (by rw [HC0.out]; exact exec_buildC rfl rfl (gdC_len _ _ _)) ?_)
          | ((with_reducible refine at_op ⟨none, .store 38 (.tmp 7) (.tmp 32), _, _, _, _⟩ ?_); refine wpList_store_row rfl 38 _ _ rfl wx.heap.size (clc c0 nilV nilV).toArray rfl rfl 38 zC (heap_alloc_new _ _) HIN.out (by show 19 = _; rw [List.size_toArray, HLN.out]) HON.out ?_)
          | fail)
        change Code.wp _ _ _ _ (boxC wx (clc c0 nilV nilV))
        have HB1 := hid (boxC_below wx (clc c0 nilV nilV))
        have HI1 := hid (show InC (boxC wx (clc c0 nilV nilV)) wx.heap.size c0 nilV nilV from boxC_row _ _)
        obtain ⟨w3, hw3⟩ : ∃ x, x = boxC wx (clc c0 nilV nilV) := ⟨_, rfl⟩
        rw [← hw3] at HB1 HI1 ⊢
        obtain ⟨g, hg⟩ : ∃ g, g = wx.heap.size := ⟨_, rfl⟩
        rw [← hg] at HI1
        have HG := hid hg
        have hwx := HDX.out.hw
        clear hw3 HLN HIN HON
        rw [← hg]
        clear hg
        have hw3 : Below w.heap.size w w3 := hwx.trans (HB1.out.mono hwx.size)
        obtain ⟨nf, hnf⟩ : ∃ n : Nat, n = (b.getD (k + 16) 0).toNat := ⟨_, rfl⟩
        have hnf2 := getD_byt HBY.out (k + 16)
        have hnfi : b.getD (k + 16) 0 = nf := by omega
        have hnf3 : nf ≤ 255 := by omega
        clear hnf2
        go_wp2_with fail
        refine (CA.out w3 hw3 (k + 16)).mono ?_
        rintro e _ ⟨rfl, rfl⟩
        rw [hnfi]
        have HNF := hid hnf
        clear hnf hnfi
        go_upto_region 9 with (fail)
        obtain ⟨k1, hk1⟩ : ∃ k1, k1 = k + 17 := ⟨_, rfl⟩
        rw [show (k : Int) + 17 = (k1 : Int) by omega]
        have HK1 := hid hk1
        have hk1b : k1 ≤ 1000017 := by omega
        clear hk1
        have hB3 : Below wx.heap.size wx w3 := HB1.out
        have H9 := hid (show InC w3 g ⟨c0.id, facTo b k1 0, 0, []⟩ nilV nilV by have := HI1.out; rw [HC0.out] at this ⊢; exact this)
        have HO9 := hid (show w3.ownsRow (g + 1) 74 17 nilV 0 ((facTo b k1 0).flatMap fcl) from ⟨rfl, .inl ⟨rfl, rfl⟩⟩)
        clear HI1
        go_wp2
        go_loopw [5, 9] (fun p5 p9 wr => ∃ (q : Nat) (vf : Value), q ≤ nf ∧ p5 = .int .i64 ((k1 + 17 * q : Nat) : Int) ∧ p9 = .int .i64 q ∧ RowKit.Hid (InC wr g ⟨c0.id, facTo b k1 q, 0, []⟩ vf nilV) ∧ RowKit.Hid (wr.ownsRow (g + 1) 74 17 vf q ((facTo b k1 q).flatMap fcl)) ∧ RowKit.Hid (Below wx.heap.size wx wr)) (fun _ p _ => nf - (intOf p).toNat)
        case atStart => exact ⟨0, nilV, by omega, rfl, rfl, H9, HO9, hid hB3⟩
        case round =>
          obtain ⟨q, vf, hq, rfl, rfl, HI, HO, HB⟩ := hrel
          clear H9 HO9 hB3 hw3
          have hwr := hwx.trans (HB.out.mono hwx.size)
          by_cases hqn : q < nf
          · have hdq : decide ((q : Int) < (nf : Int)) = true := by simp; omega
            have c16 := HI.out.cf H16.out
            go_upto_region 12 with (fail)
            refine D.wp_region_mix [0, 1, 0, 0, 2, 0, 0, 0, 2, 0, 0, 2, 3, 0, 3] (fun W => W.cell? ⟨g, 16, none⟩ = some vf) (by kernel_rfl) (by kernel_rfl) c16 ?_
            obtain ⟨kq, hkq⟩ : ∃ x, x = k1 + 17 * q := ⟨_, rfl⟩
            rw [← hkq]
            have hkb : kq ≤ 1004352 := by omega
            have HKQ := hid hkq
            clear hkq c16
            obtain ⟨wd, hwd⟩ : ∃ wd, wd = wr.drew := ⟨_, rfl⟩
            have hd0 : Below wr.heap.size wr wd := by rw [hwd]; exact (Below.refl _ _).drew
            rw [← hwd]
            have HD := hid hd0
            have HID := hid (HI.out.on hd0)
            have HOD := hid (own_kept HO.out (fun b _ hb => hd0.block b hb))
            have HBD := hid (HB.out.trans (hd0.mono HB.out.size))
            have hwd2 := hwx.trans (HBD.out.mono hwx.size)
            clear hwd hd0 HI HO HB hwr
            repeat (first
              | (refine' C.wpMix_read vf rfl rfl _ _; (solve | (intro W hS; have hS' : W.cell? ⟨g, 16, none⟩ = some vf := hS; clear hS; go_simp)); simp only [Act.put, List.setIfInBounds_toArray, List.set_cons_zero, List.set_cons_succ])
              | (refine' C.wpMix_value _ rfl rfl _ _; rotate_left; (solve | (intro W; go_simp) | (intro W; go_simp; with_reducible rfl)); simp only [Act.put, List.setIfInBounds_toArray, List.set_cons_zero, List.set_cons_succ]))
            refine C.wpMix_call 41 #[.slice ad n cap, .int .i64 (kq : Int)] (by decide) rfl ?nr1 ?nc1
            case' nr1 => go_simp
            refine (CG.out wd hwd2 kq (by omega)).mono ?_
            rintro e wa ⟨rfl, hba⟩
            refine ⟨_, rfl, fun _ => (HID.out.on hba).cf H16.out, ?_⟩
            simp only [Act.put, List.setIfInBounds_toArray, List.set_cons_zero, List.set_cons_succ]
            have HID2 := hid (HID.out.on hba)
            have HOD2 := hid (own_kept HOD.out (fun b _ hb => hba.block b hb))
            have HBD2 := hid (HBD.out.trans (hba.mono HBD.out.size))
            have HBA := hid hba
            have hwd3 := hwx.trans (HBD2.out.mono hwx.size)
            clear hba hwd2
            repeat (refine' C.wpMix_value _ rfl rfl _ _; rotate_left; (solve | (intro W; go_simp) | (intro W; go_simp; with_reducible rfl)); simp only [Act.put, List.setIfInBounds_toArray, List.set_cons_zero, List.set_cons_succ])
            refine C.wpMix_call 40 #[.slice ad n cap, .int .i64 (kq + 16 : Int)] (by decide) rfl ?nr2 ?nc2
            case' nr2 => go_simp; exact IntWalk.i64_in _ ⟨by omega, by omega⟩
            refine (CA.out wa hwd3 (kq + 16)).mono ?_
            rintro e _ ⟨rfl, rfl⟩
            refine ⟨_, rfl, fun _ => HID2.out.cf H16.out, ?_⟩
            simp only [Act.put, List.setIfInBounds_toArray, List.set_cons_zero, List.set_cons_succ]
            obtain ⟨y, hy⟩ : ∃ y, y = b.getD (kq + 16) 0 := ⟨_, rfl⟩
            have hyb := getD_byt HBY.out (kq + 16)
            rw [← hy] at hyb ⊢
            obtain ⟨gu, hgu⟩ : ∃ gu, gu = guidC b kq := ⟨_, rfl⟩
            have HGL := hid (show gu.length = 16 by rw [hgu]; exact gdC_len _ _ _)
            rw [← hgu]
            have HF := hid (show facAt b kq = ⟨gu, y - 1⟩ by rw [hgu, hy]; rfl)
            clear hy hgu
            refine C.wpMix_value (.int .i64 (y - 1)) rfl rfl (by intro W; go_simp; exact IntWalk.i64_in _ ⟨by omega, by omega⟩) ?_
            simp only [Act.put, List.setIfInBounds_toArray, List.set_cons_zero, List.set_cons_succ]
            refine C.wpMix_value (.agg (fcl ⟨gu, y - 1⟩).toArray) rfl rfl (fun W => exec_buildF rfl rfl rfl HGL.out) ?_
            simp only [Act.put, List.setIfInBounds_toArray, List.set_cons_zero, List.set_cons_succ]
            refine C.wpMix_write (.slice (some ⟨wa.heap.size, 0, none⟩) 1 1) (wa.alloc (.cells (fcl ⟨gu, y - 1⟩).toArray 74)) (by decide) rfl (exec_oneF (x := ⟨gu, y - 1⟩) HGL.out rfl rfl) (fun _ => (HID2.out.on ((Below.refl _ _).alloc (Nat.le_refl _) _)).cf H16.out) ?_
            simp only [Act.put, List.setIfInBounds_toArray, List.set_cons_zero, List.set_cons_succ]
            obtain ⟨i0, hi0, hz0, hz1, hz2⟩ := info_parts infoFace
            have hgl : g < wa.heap.size := (Array.getElem?_eq_some_iff.1 HID2.out).1
            refine C.wpMix_append (by decide) rfl (.tmp 45) (.tmp 55) 35 rfl (g + 1) 74 i0 _ 17 24 Tryd.underlying35 hi0 hz0 hz1 hz2 (by decide +kernel) (by decide) vf q _ rfl (HOD2.out.alloc _) ⟨wa.heap.size, 0, none⟩ 1 1 (fcl ⟨gu, y - 1⟩) rfl (by rw [fcl_len HGL.out]) (World.news_of_block (heap_alloc_new wa _)) (fcl_oneD _) (by decide) (by unfold maxLen; omega) (by omega) (by simp; omega) (wa.heap.size + 1) (by simp) ?_
            intro g3 k3 wz hownz hgrowz hatz hltz
            have HP := hid (row_push (c' := ⟨c0.id, facTo b k1 (q + 1), 0, []⟩) (vf' := .slice (some ⟨g3, 0, none⟩) (q + 1) k3) (vm' := nilV) (j := 16) HBD2.out HG.out HID2.out HOD2.out ((Below.refl _ _).alloc (Nat.le_refl _) _) hgrowz hownz (clc_set (c := ⟨c0.id, facTo b k1 q, 0, []⟩) (c' := ⟨c0.id, facTo b k1 (q + 1), 0, []⟩) H16.out 0 rfl rfl))
            have hiz : InC wz g ⟨c0.id, facTo b k1 q, 0, []⟩ vf nilV := ((hgrowz.block g (by simp; omega) (fun h => by have := (own_sb HOD2.out g h.symm).1; omega)).trans (((Below.refl wa.heap.size wa).alloc (Nat.le_refl _) _).block g hgl)).trans HID2.out
            have hcz := hiz.cf H16.out
            have hfz := hiz.frozen 16
            clear hiz
            clear hownz hgrowz hatz hltz
            refine ⟨fun h => absurd h (by decide), ?_⟩
            simp only [Act.put, List.setIfInBounds_toArray, List.set_cons_zero, List.set_cons_succ]
            refine' C.wpMix_value _ rfl rfl _ _; rotate_left; (solve | (intro W; go_simp) | (intro W; go_simp; with_reducible rfl)); simp only [Act.put, List.setIfInBounds_toArray, List.set_cons_zero, List.set_cons_succ]
            refine C.wpMix_skip (wz.setCell ⟨g, 16, none⟩ (.slice (some ⟨g3, 0, none⟩) (q + 1) k3)) (by decide) rfl ?nr3 (fun h => absurd h (by decide)) ?_
            case nr3 => go_simp
            simp only [Act.put]
            refine C.wpMix_end ?_
            obtain ⟨we, hwe⟩ : ∃ we, we = wz.setCell ⟨g, 16, none⟩ (.slice (some ⟨g3, 0, none⟩) (q + 1) k3) := ⟨_, rfl⟩
            rw [← hwe] at HP ⊢
            obtain ⟨v5, hv5⟩ : ∃ v5, v5 = Value.slice (some ⟨g3, 0, none⟩) (q + 1) k3 := ⟨_, rfl⟩
            rw [← hv5] at HP ⊢
            have HIE := hid HP.out.1
            have HOE := hid (show we.ownsRow (g + 1) 74 17 v5 (q + 1) ((facTo b k1 (q + 1)).flatMap fcl) by
              have h := HP.out.2.1
              rw [facTo_succ, List.flatMap_append, ← HKQ.out, HF.out]
              simpa using h)
            have HBE := hid HP.out.2.2
            clear HP hwe hv5 hcz hfz HID HID2 HOD HOD2 HBD HBD2 HBA HD hi0 hz0 hz1 hz2 hgl hwd3
            go_wp2
            go_roundw
            case rel => exact ⟨q + 1, v5, by omega, by rw [HKQ.out]; go_num, by go_num, HIE, HOE, HBE⟩
            case measure => simp [intOf]; omega
          · obtain rfl : q = nf := by omega
            have hdq : decide ((q : Int) < (q : Int)) = false := by simp
            obtain ⟨fs, hfs⟩ : ∃ fs, fs = facTo b k1 q := ⟨_, rfl⟩
            rw [← hfs] at HI HO
            have HFS := hid hfs
            have HFI := hid (show ∀ f ∈ fs, f.id.length = 16 by
              intro f hf
              rw [hfs] at hf
              obtain ⟨j, _, rfl⟩ := List.mem_map.1 hf
              exact gdC_len _ _ _)
            have HFO := hid (show ∀ f ∈ fs, I64 f.base by
              intro f hf
              rw [hfs] at hf
              obtain ⟨j, _, rfl⟩ := List.mem_map.1 hf
              have := getD_byt HBY.out (k1 + 17 * j + 16)
              exact ⟨by show _ ≤ b.getD (k1 + 17 * j + 16) 0 - 1; omega, by show b.getD (k1 + 17 * j + 16) 0 - 1 ≤ _; omega⟩)
            clear hfs
            obtain ⟨k2, hk2⟩ : ∃ x, x = k1 + 17 * q := ⟨_, rfl⟩
            rw [← hk2]
            have hk2b : k2 ≤ 1004352 := by omega
            have HK2 := hid hk2
            clear hk2
            have c17 := HI.out.cs H16.out
            have f17 := HI.out.frozen 17
            go_upto_region 14 with (fail)
            go_wp2_with fail
            refine (CA.out wr hwr k2).mono ?_
            rintro e _ ⟨rfl, rfl⟩
            obtain ⟨sl, hsl⟩ : ∃ y, y = b.getD k2 0 := ⟨_, rfl⟩
            have hsb := getD_byt HBY.out k2
            rw [← hsl] at hsb ⊢
            have HSL := hid hsl
            clear hsl
            go_upto_region 15 with (fail)
            change Code.wp _ _ _ _ (wr.setCell ⟨g, 17, none⟩ (.int .i64 sl))
            obtain ⟨hp1, hp2, hp3, hp4⟩ := InC.put (c' := ⟨c0.id, fs, sl, []⟩) (vf' := vf) (vm' := nilV) HB.out HG.out HI.out (clc_set (c := ⟨c0.id, fs, 0, []⟩) (c' := ⟨c0.id, fs, sl, []⟩) (v := .int .i64 sl) H16.out 1 rfl rfl)
            obtain ⟨w4, hw4⟩ : ∃ x, x = wr.setCell ⟨g, 17, none⟩ (.int .i64 sl) := ⟨_, rfl⟩
            rw [← hw4] at hp1 hp2 hp3 hp4 ⊢
            have HI4 := hid hp1
            have HB4 := hid hp2
            have HZ4 := hid ((ZF.own HO.out HFI.out HFO.out).kept (fun b hb => hp3 b hb.1) hp4)
            have hwr4 := hwx.trans (HB4.out.mono hwx.size)
            have HZ5 := hid (show ZF (fun b => g + 1 ≤ b ∧ Ex w4 nilV b) w4 vf fs from HZ4.out.mono fun b hb => ⟨hb.1, Nat.lt_of_lt_of_le hb.2 hp4, fun h => by cases h⟩)
            clear hw4 hp1 hp2 hp3 hp4 HI HO HB c17 f17 HZ4 hwr
            obtain ⟨nm, hnm⟩ : ∃ n : Nat, n = (b.getD (k2 + 1) 0).toNat := ⟨_, rfl⟩
            have hnm2 := getD_byt HBY.out (k2 + 1)
            have hnmi : b.getD (k2 + 1) 0 = nm := by omega
            have hnm3 : nm ≤ 255 := by omega
            clear hnm2
            go_wp2_with fail
            refine (CA.out w4 hwr4 (k2 + 1)).mono ?_
            rintro e _ ⟨rfl, rfl⟩
            rw [hnmi]
            have HNM := hid hnm
            clear hnm hnmi
            go_upto_region 17 with (fail)
            obtain ⟨kM, hkM⟩ : ∃ x, x = k2 + 2 := ⟨_, rfl⟩
            rw [show (k2 : Int) + 2 = (kM : Int) by omega]
            have hkMb : kM ≤ 1004354 := by omega
            have HKM := hid hkM
            clear hkM
            have HM0 := hid (show (metTo b kM 0).2 = kM from rfl)
            have HOM0 := hid (show OwM (g + 1) w4 nilV (metTo b kM 0).1 from OwM.nil _ _)
            have HI5 := hid (show InC w4 g ⟨c0.id, fs, sl, (metTo b kM 0).1⟩ vf nilV from HI4.out)
            clear HI4 hwr4
            go_wp2
            go_loopw [5, 10, 11, 12, 13, 14] (fun p5 p10 _ _ _ _ wr => ∃ (jj kk : Nat) (vm : Value), jj ≤ nm ∧ kk ≤ kM + 1531 * jj ∧ p5 = .int .i64 kk ∧ p10 = .int .i64 jj ∧ RowKit.Hid ((metTo b kM jj).2 = kk) ∧ RowKit.Hid (InC wr g ⟨c0.id, fs, sl, (metTo b kM jj).1⟩ vf vm) ∧ RowKit.Hid (OwM (g + 1) wr vm (metTo b kM jj).1) ∧ RowKit.Hid (ZF (fun b => g + 1 ≤ b ∧ Ex wr vm b) wr vf fs) ∧ RowKit.Hid (Below wx.heap.size wx wr)) (fun _ p _ _ _ _ _ => nm - (intOf p).toNat)
            case atStart => exact ⟨0, kM, nilV, by omega, by omega, rfl, rfl, HM0, HI5, HOM0, HZ5, HB4⟩
            case round =>
              obtain ⟨jj, kk, vm, hjj, hkk, rfl, rfl, HM, HIm, HOm, HZm, HBm⟩ := hrel
              clear HM0 HI5 HOM0 HZ5 HB4
              have hwr := hwx.trans (HBm.out.mono hwx.size)
              by_cases hjn : jj < nm
              · have hdj2 : decide ((jj : Int) < (nm : Int)) = true := by simp; omega
                go_upto_region 21 with (fail)
                obtain ⟨mn, hmn⟩ : ∃ n : Nat, n = (b.getD kk 0).toNat := ⟨_, rfl⟩
                have hmn2 := getD_byt HBY.out kk
                have hmni : b.getD kk 0 = mn := by omega
                have hmn3 : mn ≤ 255 := by omega
                clear hmn2
                go_wp2_with fail
                refine (CA.out wr hwr kk).mono ?_
                rintro e _ ⟨rfl, rfl⟩
                rw [hmni]
                have HMN := hid hmn
                clear hmn hmni
                go_upto_region 23 with (fail)
                obtain ⟨kI, hkI⟩ : ∃ x, x = kk + 1 := ⟨_, rfl⟩
                rw [show (kk : Int) + 1 = (kI : Int) by omega]
                have hkIb : kI ≤ kM + 1531 * jj + 1 := by omega
                have HKI := hid hkI
                clear hkI
                have HO0 := hid (show wr.ownsRow wr.heap.size 61 3 nilV 0 ((insTo b kI 0).flatMap insc) from ⟨rfl, .inl ⟨rfl, rfl⟩⟩)
                have HB0 := hid (Below.refl wr.heap.size wr)
                obtain ⟨w5, hw5⟩ : ∃ w5, w5 = wr := ⟨_, rfl⟩
                rw [← hw5] at HO0 HB0 HIm HOm HZm HBm hwr ⊢
                clear hw5
                go_wp2
                go_loopw [5, 11, 13, 14] (fun p5 p11 p13 _ W => ∃ (i : Nat), i ≤ mn ∧ p5 = .int .i64 ((kI + 6 * i : Nat) : Int) ∧ p13 = .int .i64 i ∧ RowKit.Hid (W.ownsRow w5.heap.size 61 3 p11 i ((insTo b kI i).flatMap insc)) ∧ RowKit.Hid (Below w5.heap.size w5 W)) (fun _ _ p _ _ => mn - (intOf p).toNat)
                case atStart => exact ⟨0, by omega, rfl, rfl, HO0, HB0⟩
                case round =>
                  obtain ⟨i, hi, rfl, rfl, HOi, HBi⟩ := hrel
                  clear HO0 HB0
                  have hwi := hwr.trans (HBi.out.mono hwr.size)
                  by_cases hin : i < mn
                  · have hdi : decide ((i : Int) < (mn : Int)) = true := by simp; omega
                    obtain ⟨ki, hki⟩ : ∃ x, x = kI + 6 * i := ⟨_, rfl⟩
                    rw [← hki]
                    have hkib : ki ≤ 2000000 := by omega
                    have HKi := hid hki
                    clear hki
                    go_upto_region 26 with (fail)
                    obtain ⟨y2, hy2⟩ : ∃ y, y = b.getD (ki + 2) 0 := ⟨_, rfl⟩
                    obtain ⟨y3, hy3⟩ : ∃ y, y = b.getD (ki + 3) 0 := ⟨_, rfl⟩
                    obtain ⟨y4, hy4⟩ : ∃ y, y = b.getD (ki + 4) 0 := ⟨_, rfl⟩
                    obtain ⟨y5, hy5⟩ : ∃ y, y = b.getD (ki + 5) 0 := ⟨_, rfl⟩
                    have hb2 := getD_byt HBY.out (ki + 2)
                    have hb3 := getD_byt HBY.out (ki + 3)
                    have hb4 := getD_byt HBY.out (ki + 4)
                    have hb5 := getD_byt HBY.out (ki + 5)
                    have HY2 := hid (CA.out wr hwi (ki + 2))
                    have HY3 := hid (CA.out wr hwi (ki + 3))
                    have HY4 := hid (CA.out wr hwi (ki + 4))
                    have HY5 := hid (CA.out wr hwi (ki + 5))
                    rw [← hy2] at hb2 HY2
                    rw [← hy3] at hb3 HY3
                    rw [← hy4] at hb4 HY4
                    rw [← hy5] at hb5 HY5
                    have HYY := hid (And.intro hy2 (And.intro hy3 (And.intro hy4 hy5)))
                    clear hy2 hy3 hy4 hy5
                    go_wp2_with fail
                    refine HY2.out.mono ?_
                    rintro e _ ⟨rfl, rfl⟩
                    go_wp2_with fail
                    refine HY3.out.mono ?_
                    rintro e _ ⟨rfl, rfl⟩
                    go_wp2_with fail
                    refine HY4.out.mono ?_
                    rintro e _ ⟨rfl, rfl⟩
                    go_wp2_with fail
                    refine HY5.out.mono ?_
                    rintro e _ ⟨rfl, rfl⟩
                    clear HY2 HY3 HY4 HY5
                    go_upto_region 27 with (fail)
                    obtain ⟨i0, hi0, hz0, hz1, hz2⟩ := info_parts infoInstrD
                    have HI0 := hid hi0
                    have HZ0 := hid hz0
                    have HZ1 := hid hz1
                    have HZ2 := hid hz2
                    clear hi0 hz0 hz1 hz2
                    obtain ⟨A, hA⟩ : ∃ A, A = y2 + 256 * y3 + 65536 * y4 + 16777216 * y5 := ⟨_, rfl⟩
                    rw [← hA]
                    have hAb : 0 ≤ A ∧ A ≤ 4294967295 := by omega
                    have HA := hid hA
                    clear hA hb2 hb3 hb4 hb5
                    obtain ⟨y0, hy0⟩ : ∃ y, y = b.getD ki 0 := ⟨_, rfl⟩
                    obtain ⟨y1, hy1⟩ : ∃ y, y = b.getD (ki + 1) 0 := ⟨_, rfl⟩
                    have HY0 := hid (CA.out wr hwi ki)
                    have HY1 := hid (CA.out wr hwi (ki + 1))
                    rw [← hy0] at HY0
                    rw [← hy1] at HY1
                    have HXX := hid (show insAt b ki = ⟨y0, sgn A, y1⟩ by
                      have h := HYY.out
                      unfold insAt
                      rw [HA.out, h.1, h.2.1, h.2.2.1, h.2.2.2, hy0, hy1])
                    clear hy0 hy1 HYY
                    by_cases hsA : 2147483647 < A
                    · have hdA : decide (A > 2147483647) = true := by simpa using hsA
                      obtain ⟨aa, haa⟩ : ∃ aa, aa = A - 4294967296 := ⟨_, rfl⟩
                      have HX := hid (show insAt b ki = ⟨y0, aa, y1⟩ by rw [HXX.out, haa]; unfold sgn; rw [if_pos hsA])
                      go_upto_region 29 with (fail)
                      rw [← haa]
                      clear haa HXX
                      go_wp2_with fail
                      refine HY0.out.mono ?_
                      rintro e _ ⟨rfl, rfl⟩
                      go_wp2_with fail
                      refine HY1.out.mono ?_
                      rintro e _ ⟨rfl, rfl⟩
                      go_wp2_with (first
                        | (at_builtin; refine wpList_append_own_at _ (o := ⟨some 122, _, _, _, _, _⟩) rfl (.tmp 111) (.tmp 121) 56 rfl w5.heap.size 61 i0 _ 3 24 Tryd.underlying56 HI0.out HZ0.out HZ1.out HZ2.out rfl (by decide) u11 i _ rfl (HOi.out.alloc _) ⟨wr.heap.size, 0, none⟩ 1 1 (insc ⟨y0, aa, y1⟩) rfl rfl (World.news_of_block (heap_alloc_new wr _)) (fun u hu => by simp only [insc, List.mem_cons, List.not_mem_nil, or_false] at hu; rcases hu with rfl | rfl | rfl <;> rfl) (by unfold maxLen; omega) (by omega) (by have := HBi.out.size; simp; omega) ?_; intro v6 w6 hown hgrow hnil hat; have HOW := hid hown; have HGR := hid hgrow; clear hown hgrow hnil hat)
                        | fail)
                      have HO6 := hid (show w6.ownsRow w5.heap.size 61 3 v6 (i + 1) ((insTo b kI (i + 1)).flatMap insc) by
                        have h := HOW.out
                        rw [inTo_succ, List.flatMap_append, ← HKi.out, HX.out]
                        simpa using h)
                      have HB6 := hid (show Below w5.heap.size w5 w6 from (HBi.out.alloc HBi.out.size _).grown HGR.out (by have := HBi.out.size; simp; omega) (fun k hk => (own_sb HOi.out k hk).1))
                      clear HOW HGR HOi HBi hwi
                      go_roundw
                      case rel => exact ⟨i + 1, by omega, by rw [HKi.out]; go_num, by go_num, HO6, HB6⟩
                      case measure => simp [intOf]; omega
                    · have hdA : decide (A > 2147483647) = false := by simpa using hsA
                      obtain ⟨aa, haa⟩ : ∃ aa, aa = A := ⟨_, rfl⟩
                      have HX := hid (show insAt b ki = ⟨y0, aa, y1⟩ by rw [HXX.out, haa]; unfold sgn; rw [if_neg hsA])
                      go_upto_region 29 with (fail)
                      rw [← haa]
                      clear haa HXX
                      go_wp2_with fail
                      refine HY0.out.mono ?_
                      rintro e _ ⟨rfl, rfl⟩
                      go_wp2_with fail
                      refine HY1.out.mono ?_
                      rintro e _ ⟨rfl, rfl⟩
                      go_wp2_with (first
                        | (at_builtin; refine wpList_append_own_at _ (o := ⟨some 122, _, _, _, _, _⟩) rfl (.tmp 111) (.tmp 121) 56 rfl w5.heap.size 61 i0 _ 3 24 Tryd.underlying56 HI0.out HZ0.out HZ1.out HZ2.out rfl (by decide) u11 i _ rfl (HOi.out.alloc _) ⟨wr.heap.size, 0, none⟩ 1 1 (insc ⟨y0, aa, y1⟩) rfl rfl (World.news_of_block (heap_alloc_new wr _)) (fun u hu => by simp only [insc, List.mem_cons, List.not_mem_nil, or_false] at hu; rcases hu with rfl | rfl | rfl <;> rfl) (by unfold maxLen; omega) (by omega) (by have := HBi.out.size; simp; omega) ?_; intro v6 w6 hown hgrow hnil hat; have HOW := hid hown; have HGR := hid hgrow; clear hown hgrow hnil hat)
                        | fail)
                      have HO6 := hid (show w6.ownsRow w5.heap.size 61 3 v6 (i + 1) ((insTo b kI (i + 1)).flatMap insc) by
                        have h := HOW.out
                        rw [inTo_succ, List.flatMap_append, ← HKi.out, HX.out]
                        simpa using h)
                      have HB6 := hid (show Below w5.heap.size w5 w6 from (HBi.out.alloc HBi.out.size _).grown HGR.out (by have := HBi.out.size; simp; omega) (fun k hk => (own_sb HOi.out k hk).1))
                      clear HOW HGR HOi HBi hwi
                      go_roundw
                      case rel => exact ⟨i + 1, by omega, by rw [HKi.out]; go_num, by go_num, HO6, HB6⟩
                      case measure => simp [intOf]; omega
                  · obtain rfl : i = mn := by omega
                    have hdi : decide ((i : Int) < (i : Int)) = false := by simp
                    obtain ⟨l, hl'⟩ : ∃ l, l = insTo b kI i := ⟨_, rfl⟩
                    have HL := hid hl'
                    obtain ⟨ms, hms⟩ : ∃ ms, ms = (metTo b kM jj).1 := ⟨_, rfl⟩
                    have HMS := hid hms
                    have HML := hid (show ms.length = jj by rw [hms]; exact metTo_len _ _ _)
                    rw [← hl'] at HOi
                    rw [← hms] at HIm HOm
                    clear hl' hms
                    have hok : ∀ x ∈ l, InsOk x := by
                      intro x hx
                      rw [HL.out] at hx
                      obtain ⟨t, _, rfl⟩ := List.mem_map.1 hx
                      have h0 := getD_byt HBY.out (kI + 6 * t)
                      have h1 := getD_byt HBY.out (kI + 6 * t + 1)
                      have h2 := getD_byt HBY.out (kI + 6 * t + 2)
                      have h3 := getD_byt HBY.out (kI + 6 * t + 3)
                      have h4 := getD_byt HBY.out (kI + 6 * t + 4)
                      have h5 := getD_byt HBY.out (kI + 6 * t + 5)
                      refine ⟨⟨?_, ?_⟩, ⟨?_, ?_⟩, ⟨?_, ?_⟩⟩
                      all_goals simp only [insAt, sgn]
                      all_goals first | omega | (split <;> omega)
                    obtain ⟨al, cl, rfl⟩ := own_form HOi.out
                    have hgl5 : g < w5.heap.size := (Array.getElem?_eq_some_iff.1 HIm.out).1
                    obtain ⟨vs, hvo, hvx⟩ := HOm.out.kept (fun b _ hb => HBi.out.block b hb) HBi.out.size
                    have hexm : ∀ b, Ex w5 vm b → Ex wr vm b := fun b hb => ⟨Nat.lt_of_lt_of_le hb.1 HBi.out.size, hb.2⟩
                    have HVO := hid hvo
                    have HVX := hid hvx
                    have HUI := hid (show ZI (fun b => g + 1 ≤ b ∧ Ex wr vm b) wr (.slice al i cl) l from (ZI.own HOi.out hok).mono fun b hb => ⟨by have := hb.1; omega, hb.2, fun h => by
                      obtain ⟨vs5, hv5, _⟩ := HOm.out
                      have := (own_sb hv5 b h).2
                      have := hb.1
                      omega⟩)
                    have HZW := hid (show ZF (fun b => g + 1 ≤ b ∧ Ex wr vm b) wr vf fs from (HZm.out.kept (fun b hb => HBi.out.block b hb.2.1) HBi.out.size).mono fun b hb => ⟨hb.1, hexm b hb.2⟩)
                    have HIW := hid (HIm.out.on HBi.out)
                    have HBW := hid (HBm.out.trans (HBi.out.mono HBm.out.size))
                    have hglr : g < wr.heap.size := (Array.getElem?_eq_some_iff.1 HIW.out).1
                    have c18 := HIW.out.cm H16.out
                    clear hok hvo hvx hexm HOi HZm HIm HOm hwi HBm
                    obtain ⟨i0, hi0, hz0, hz1, hz2⟩ := info_parts infoInss
                    have HI0 := hid hi0
                    have HZ0 := hid hz0
                    have HZ1 := hid hz1
                    have HZ2 := hid hz2
                    clear hi0 hz0 hz1 hz2
                    go_wp2_with (first
                      | (at_builtin; refine wpList_append_own_at _ (o := ⟨some 129, _, _, _, _, _⟩) rfl (.tmp 126) (.tmp 128) 36 rfl (g + 1) 56 i0 _ 1 24 Tryd.underlying36 HI0.out HZ0.out HZ1.out HZ2.out rfl (by decide) vm ms.length _ rfl (HVO.out.alloc _) ⟨wr.heap.size, 0, none⟩ 1 1 [.slice al i cl] rfl rfl (World.news_of_block (heap_alloc_new wr _)) (fun u hu => by rw [List.mem_singleton.1 hu]; rfl) (by have := HML.out; unfold maxLen; omega) (by have := HML.out; omega) (by simp; omega) ?_; intro v6 w6 hown hgrow hnil hat; obtain ⟨av6, cv6, rfl⟩ := own_form hown; have HP := hid (meth_push (c := ⟨c0.id, fs, sl, ms⟩) (c' := ⟨c0.id, fs, sl, ms ++ [l]⟩) HBW.out HG.out HIW.out HVO.out HVX.out HUI.out HZW.out ((Below.refl _ _).alloc (Nat.le_refl _) _) hgrow hat hown (clc_set (c := ⟨c0.id, fs, sl, ms⟩) (c' := ⟨c0.id, fs, sl, ms ++ [l]⟩) H16.out 2 rfl rfl)); have hiz : InC w6 g ⟨c0.id, fs, sl, ms⟩ vf vm := ((hgrow.block g (by simp; omega) (fun h => by have := (own_sb HVO.out g h.symm).1; omega)).trans (((Below.refl wr.heap.size wr).alloc (Nat.le_refl _) _).block g hglr)).trans HIW.out; have hcz := hiz.cm H16.out; have hfz := hiz.frozen 18; clear hiz hown hgrow hnil hat c18)
                      | fail)
                    have HMN7 := hid (show (metTo b kM (jj + 1)).1 = ms ++ [l] ∧ (metTo b kM (jj + 1)).2 = kI + 6 * i by
                      unfold metTo
                      simp only
                      rw [HM.out, ← HMN.out, HMS.out, HL.out, HKI.out]
                      exact ⟨rfl, rfl⟩)
                    obtain ⟨w7, hw7⟩ : ∃ w7, w7 = w6.setCell ⟨g, 18, none⟩ (.slice av6 (ms.length + 1) cv6) := ⟨_, rfl⟩
                    rw [← hw7] at HP ⊢
                    obtain ⟨v7, hv7⟩ : ∃ v7, v7 = Value.slice av6 (ms.length + 1) cv6 := ⟨_, rfl⟩
                    rw [← hv7] at HP
                    have HP1 := hid (show InC w7 g ⟨c0.id, fs, sl, (metTo b kM (jj + 1)).1⟩ vf v7 by rw [HMN7.out.1]; exact HP.out.1)
                    have HP2 := hid (show OwM (g + 1) w7 v7 (metTo b kM (jj + 1)).1 by rw [HMN7.out.1]; exact HP.out.2.1)
                    have HP3 := hid HP.out.2.2.1
                    have HP4 := hid HP.out.2.2.2
                    have HP5 := hid HMN7.out.2
                    clear HP hw7 hv7 HMN7 hcz hfz
                    go_roundw
                    case rel => exact ⟨jj + 1, kI + 6 * i, v7, by omega, by omega, by go_num, by go_num, HP5, HP1, HP2, HP3, HP4⟩
                    case measure => simp [intOf]; omega
              · obtain rfl : jj = nm := by omega
                have hdj2 : decide ((jj : Int) < (jj : Int)) = false := by simp
                obtain ⟨ms, hms⟩ : ∃ ms, ms = (metTo b kM jj).1 := ⟨_, rfl⟩
                rw [← hms] at HIm HOm
                obtain ⟨cc, hcc⟩ : ∃ cc : Cls, cc = ⟨c0.id, fs, sl, ms⟩ := ⟨_, rfl⟩
                have HCC := hid (show clsAt b k = (cc, kk) by
                  unfold clsAt
                  simp only
                  rw [← HNF.out, ← HK1.out, ← HK2.out, ← HNM.out, ← HKM.out, ← HFS.out, ← hms, HM.out, ← HSL.out, hcc, HC0.out])
                have HDW := hid (HDX.out.on HBm.out)
                have hgs := HG.out
                have HVB := hid HDX.out.vb
                have hsz2 := HDX.out.sz
                have hzm : ZC (fun b => w.heap.size + 2 ≤ b ∧ Ex wr vC b) wr cc vf vm := by
                  rw [hcc]
                  refine ⟨HZm.out.mono fun b hb => ⟨by omega, hb.2.1, fun h => by have := HVB.out b h; omega⟩, HOm.out.zm.mono fun b hb => ⟨by omega, hb.2, fun h => by have := HVB.out b h; omega⟩, H16.out, ⟨by show _ ≤ sl; omega, by show sl ≤ _; omega⟩⟩
                have HZC := hid hzm
                have HIC := hid (show InC wr g cc vf vm by rw [hcc]; exact HIm.out)
                have HLN := hid (show (clc cc vf vm).length = 19 from clc_len (by rw [hcc]; exact H16.out))
                have HC16 := hid (show cc.id.length = 16 by rw [hcc]; exact H16.out)
                have HON := hid (show (clc cc vf vm).all (·.oneCell') = true by
                  have h := clc_one (c := cc) (vf := vf) (vm := vm) (by obtain ⟨⟨a, c, e, _⟩, _⟩ := HZm.out; rw [e]; rfl) (by obtain ⟨⟨a, c, e, _⟩, _⟩ := HOm.out.zm; rw [e]; rfl)
                  simpa using h)
                have hvm1 := hid HIm.out
                clear hms hcc hzm hvm1 hgs
                have cb1 := HDW.out.b1.cell
                obtain ⟨i0, hi0, hz0, hz1, hz2⟩ := info_parts infoCls
                have HI0 := hid hi0
                have HZ0 := hid hz0
                have HZ1 := hid hz1
                have HZ2 := hid hz2
                clear hi0 hz0 hz1 hz2
                have hRL : rs.length = j := by
                  have h := congrArg (fun x => x.1.length) HDN.out
                  simp at h
                  rw [← h]
                  exact decN_len b j
                go_wp2_with (first
                  | ((with_reducible refine at_op ⟨some 133, _, _, _, _, _⟩ ?_); refine wpList_run rfl _ (load_c rfl rfl HIC.out.at HLN.out) ?_)
                  | ((with_reducible refine at_op ⟨some 134, _, _, _, _, _⟩ ?_); refine wpList_runN rfl (.slice (some ⟨wr.heap.size, 0, none⟩) 1 1) (wr.alloc (.cells (clc cc vf vm).toArray 38)) (exec_oneC HC16.out rfl rfl) ?_)
                  | (at_builtin; refine wpList_append_own_at _ (o := ⟨some 135, _, _, _, _, _⟩) rfl (.tmp 132) (.tmp 134) 22 rfl (w.heap.size + 2) 38 i0 _ 19 72 Tryd.underlying22 HI0.out HZ0.out HZ1.out HZ2.out (by decide +kernel) (by decide) vC rs.length _ rfl (HDW.out.own.own.alloc _) ⟨wr.heap.size, 0, none⟩ 1 1 (clc cc vf vm) rfl (by rw [HLN.out]) (World.news_of_block (heap_alloc_new wr _)) (fun u hu => List.all_eq_true.1 HON.out u hu) (by unfold maxLen; omega) (by omega) (by have := HDW.out.sz; simp; omega) ?_; intro v6 w6 hown hgrow hnil hat; obtain ⟨av6, cv6, rfl⟩ := own_form hown; have HP := hid (DS.push (r := (cc, vf, vm)) HDW.out HZC.out ((Below.refl _ _).alloc (Nat.le_refl _) _) hgrow hat hown); have hcz := HP.out.1.cell; have hfz := HP.out.1.frozen; clear hown hgrow hnil hat cb1)
                  | fail)
                have hj255 : j + 1 ≤ 255 := by omega
                have HDN2 := hid (show decN b (j + 1) = ((rs ++ [(cc, vf, vm)]).map (·.1), kk) by
                  unfold decN
                  simp only
                  rw [HDN.out]
                  simp only
                  rw [HCC.out]
                  simp)
                have HRN2 := hid (show rnds b (255 - (j + 1)) (j + 1) = rnds b 255 0 by
                  have h := HRN.out
                  have hn' := HN.out
                  rw [show 255 - j = (255 - (j + 1)) + 1 by omega, rnds, if_pos ⟨hj0, by rw [HDN.out]; show k < b.length; omega⟩] at h
                  exact h)
                have HP2 := hid (show DS w (w6.setCell ⟨w.heap.size + 1, 0, none⟩ (.slice av6 (j + 1) cv6)) (.slice av6 (j + 1) cv6) (rs ++ [(cc, vf, vm)]) by rw [← hRL]; exact HP.out.2)
                clear HP
                go_roundw
                case rel => exact ⟨j + 1, kk, _, rs ++ [(cc, vf, vm)], hj255, by omega, by omega, rfl, by go_num, HDN2, HRN2, HP2⟩
                case measure => simp [intOf]; omega
      · have hdj : decide ((j : Int) < b.getD 0 0) = true := by simpa using hj0
        have hdk : decide ((k : Int) < (n : Int)) = false := by simp; omega
        go_wp2_with fail
        refine (CA.out wr hw0 0).mono ?_
        rintro e _ ⟨rfl, rfl⟩
        go_upto_region 33 with (fail)
        have HRAW := hid (show rawM b = rs.map (·.1) by
          have h := HRN.out
          rw [rnds_stop (by rw [HDN.out]; show ¬ ((j : Int) < b.getD 0 0 ∧ k < b.length); rw [← HN.out]; omega)] at h
          unfold rawM
          rw [← h, HDN.out])
        obtain ⟨l, hl2⟩ : ∃ l, l = rs.map (·.1) := ⟨_, rfl⟩
        rw [← hl2] at HRAW
        have hfc := raw_faces HBY.out (rnds b 255 0)
        have hids := ids_raw b (rnds b 255 0)
        have hra : (decN b (rnds b 255 0)).1 = l := HRAW.out
        rw [hra] at hfc hids
        have HIDS := hid hids
        have hlen : l.length ≤ 255 := by
          have h := congrArg (fun x => x.1.length) HDN.out
          simp only [decN_len] at h
          rw [← hl2] at h
          omega
        obtain ⟨aC, cC, hvC, hRC, hle, hmx⟩ := HDS.out.own.sl
        rw [← hl2] at hvC hRC hle
        obtain ⟨N, hN⟩ : ∃ N, N = l.length := ⟨_, rfl⟩
        rw [← hN] at hvC hle hlen
        subst hvC
        have HCK := hid (RCheckM_any wr aC N cC l hRC hN (by omega) hle (fun c hc => by have := hfc c hc; omega))
        have HRC := hid hRC
        have HNN := hid hN
        have cb1 := HDS.out.b1.cell
        obtain ⟨c1, hc1⟩ : ∃ x, x = (chkM l).1 := ⟨_, rfl⟩
        obtain ⟨c2, hc2⟩ : ∃ x, x = (chkM l).2 := ⟨_, rfl⟩
        rw [← hc1, ← hc2] at HCK
        have HC2 := hid hc2
        have HLL := hid hl2
        clear hc1 hc2 hl2 hra hids hfc hRC hN
        go_wp2_with fail
        refine HCK.out.mono ?_
        rintro e w3 ⟨rfl, hb3⟩
        have HD3 := hid (HDS.out.on hb3)
        have HRC3 := hid (HRC.out.on hb3)
        clear hb3 HCK HRC HDS cb1
        have cb0 := HD3.out.b0.cell
        have fb0 := HD3.out.b0.frozen
        have cb1 := HD3.out.b1.cell
        by_cases h20 : c2 = 0
        · subst h20
          have HCM := hid (show (chkM l).2 = 0 from HC2.out.symm)
          go_wp2_with fail
          refine (REncode_any w3 aC N cC l HRC3.out HNN.out hle hmx (form_small HCM.out HIDS.out)).mono ?_
          rintro e w4 ⟨v7, rfl, hown, hb4⟩
          obtain ⟨a7, c7, rfl⟩ := own_form hown
          have HD4 := hid (HD3.out.on hb4)
          have hfl := form_small HCM.out HIDS.out
          have HSB := hid (SameBytes_any w4 a7 ad c7 cap (formM l).length n (formM l) b rfl HN.out (own_bs hown) ((HBS.out.below HD4.out.hw).mono HD4.out.hw.size) (by omega) (by omega))
          clear hown hb4 HD3 HRC3 hfl cb0 fb0 cb1
          go_wp2_with fail
          refine HSB.out.mono ?_
          rintro e w5 ⟨rfl, hb5⟩
          have HD5 := hid (HD4.out.on hb5)
          clear hb5 HSB HD4
          have cb0 := HD5.out.b0.cell
          have fb0 := HD5.out.b0.frozen
          have cb1 := HD5.out.b1.cell
          cases hsame : (formM l == b) with
          | true =>
            have HE := hid (show decM b = (l, true) by unfold decM; rw [HRAW.out, if_pos ⟨HCM.out, by simpa using hsame⟩])
            clear hsame
            go_wp2
            have hkp : ∀ k, w.heap.size + 2 ≤ k → k < w5.heap.size → (w5.setCell ⟨w.heap.size, 0, none⟩ (.slice aC N cC)).heap[k]? = w5.heap[k]? := fun k hk _ => Below.heap_setCell _ _ _ _ (by show k ≠ w.heap.size; omega)
            refine cdec_ret (u := .bool true) rfl rfl rfl (HD5.out.b0.set (.slice aC N cC)) ⟨.slice aC N cC, by rw [HE.out], ?_, HD5.out.hw.setCell (by show w.heap.size ≤ w.heap.size; omega) _⟩
            rw [HE.out, HLL.out]
            exact (HD5.out.own.kept hkp (by rw [World.setCell]; simp)).sl
          | false =>
            have HE := hid (show decM b = ([], false) by unfold decM; rw [HRAW.out, if_neg (fun h => by have h2 := h.2; rw [h2] at hsame; simp at hsame)])
            clear hsame
            go_wp2
            exact cdec_ret rfl rfl rfl (HD5.out.b0.set nilV) (DecM.none HE.out (HD5.out.hw.setCell (by show w.heap.size ≤ w.heap.size; omega) _))
        · have HE := hid (show decM b = ([], false) by unfold decM; rw [HRAW.out, if_neg (fun h => h20 (HC2.out.trans h.1))])
          have hne : (c2 == 0) = false := by simpa using h20
          go_wp2
          exact cdec_ret rfl rfl rfl (HD3.out.b0.set nilV) (DecM.none HE.out (HD3.out.hw.setCell (by show w.heap.size ≤ w.heap.size; omega) _))
    · go_wp2_with fail
      refine (CA.out wr hw0 0).mono ?_
      rintro e _ ⟨rfl, rfl⟩
      obtain ⟨z0, hz0⟩ : ∃ z, z = b.getD 0 0 := ⟨_, rfl⟩
      have HJ0 := hid hj0
      rw [← hz0] at hj0 ⊢
      have hdj : decide ((j : Int) < z0) = false := by simpa using hj0
      clear hz0 hj0
      go_upto_region 33 with (fail)
      have hj0 := HJ0.out
      have HRAW := hid (show rawM b = rs.map (·.1) by
        have h := HRN.out
        rw [rnds_stop (by rw [HDN.out]; show ¬ ((j : Int) < b.getD 0 0 ∧ k < b.length); rw [← HN.out]; omega)] at h
        unfold rawM
        rw [← h, HDN.out])
      obtain ⟨l, hl2⟩ : ∃ l, l = rs.map (·.1) := ⟨_, rfl⟩
      rw [← hl2] at HRAW
      have hfc := raw_faces HBY.out (rnds b 255 0)
      have hids := ids_raw b (rnds b 255 0)
      have hra : (decN b (rnds b 255 0)).1 = l := HRAW.out
      rw [hra] at hfc hids
      have HIDS := hid hids
      have hlen : l.length ≤ 255 := by
        have h := congrArg (fun x => x.1.length) HDN.out
        simp only [decN_len] at h
        rw [← hl2] at h
        omega
      obtain ⟨aC, cC, hvC, hRC, hle, hmx⟩ := HDS.out.own.sl
      rw [← hl2] at hvC hRC hle
      obtain ⟨N, hN⟩ : ∃ N, N = l.length := ⟨_, rfl⟩
      rw [← hN] at hvC hle hlen
      subst hvC
      have HCK := hid (RCheckM_any wr aC N cC l hRC hN (by omega) hle (fun c hc => by have := hfc c hc; omega))
      have HRC := hid hRC
      have HNN := hid hN
      have cb1 := HDS.out.b1.cell
      obtain ⟨c1, hc1⟩ : ∃ x, x = (chkM l).1 := ⟨_, rfl⟩
      obtain ⟨c2, hc2⟩ : ∃ x, x = (chkM l).2 := ⟨_, rfl⟩
      rw [← hc1, ← hc2] at HCK
      have HC2 := hid hc2
      have HLL := hid hl2
      clear hc1 hc2 hl2 hra hids hfc hRC hN
      go_wp2_with fail
      refine HCK.out.mono ?_
      rintro e w3 ⟨rfl, hb3⟩
      have HD3 := hid (HDS.out.on hb3)
      have HRC3 := hid (HRC.out.on hb3)
      clear hb3 HCK HRC HDS cb1
      have cb0 := HD3.out.b0.cell
      have fb0 := HD3.out.b0.frozen
      have cb1 := HD3.out.b1.cell
      by_cases h20 : c2 = 0
      · subst h20
        have HCM := hid (show (chkM l).2 = 0 from HC2.out.symm)
        go_wp2_with fail
        refine (REncode_any w3 aC N cC l HRC3.out HNN.out hle hmx (form_small HCM.out HIDS.out)).mono ?_
        rintro e w4 ⟨v7, rfl, hown, hb4⟩
        obtain ⟨a7, c7, rfl⟩ := own_form hown
        have HD4 := hid (HD3.out.on hb4)
        have hfl := form_small HCM.out HIDS.out
        have HSB := hid (SameBytes_any w4 a7 ad c7 cap (formM l).length n (formM l) b rfl HN.out (own_bs hown) ((HBS.out.below HD4.out.hw).mono HD4.out.hw.size) (by omega) (by omega))
        clear hown hb4 HD3 HRC3 hfl cb0 fb0 cb1
        go_wp2_with fail
        refine HSB.out.mono ?_
        rintro e w5 ⟨rfl, hb5⟩
        have HD5 := hid (HD4.out.on hb5)
        clear hb5 HSB HD4
        have cb0 := HD5.out.b0.cell
        have fb0 := HD5.out.b0.frozen
        have cb1 := HD5.out.b1.cell
        cases hsame : (formM l == b) with
        | true =>
          have HE := hid (show decM b = (l, true) by unfold decM; rw [HRAW.out, if_pos ⟨HCM.out, by simpa using hsame⟩])
          clear hsame
          go_wp2
          have hkp : ∀ k, w.heap.size + 2 ≤ k → k < w5.heap.size → (w5.setCell ⟨w.heap.size, 0, none⟩ (.slice aC N cC)).heap[k]? = w5.heap[k]? := fun k hk _ => Below.heap_setCell _ _ _ _ (by show k ≠ w.heap.size; omega)
          refine cdec_ret (u := .bool true) rfl rfl rfl (HD5.out.b0.set (.slice aC N cC)) ⟨.slice aC N cC, by rw [HE.out], ?_, HD5.out.hw.setCell (by show w.heap.size ≤ w.heap.size; omega) _⟩
          rw [HE.out, HLL.out]
          exact (HD5.out.own.kept hkp (by rw [World.setCell]; simp)).sl
        | false =>
          have HE := hid (show decM b = ([], false) by unfold decM; rw [HRAW.out, if_neg (fun h => by have h2 := h.2; rw [h2] at hsame; simp at hsame)])
          clear hsame
          go_wp2
          exact cdec_ret rfl rfl rfl (HD5.out.b0.set nilV) (DecM.none HE.out (HD5.out.hw.setCell (by show w.heap.size ≤ w.heap.size; omega) _))
      · have HE := hid (show decM b = ([], false) by unfold decM; rw [HRAW.out, if_neg (fun h => h20 (HC2.out.trans h.1))])
        have hne : (c2 == 0) = false := by simpa using h20
        go_wp2
        exact cdec_ret rfl rfl rfl (HD3.out.b0.set nilV) (DecM.none HE.out (HD3.out.hw.setCell (by show w.heap.size ≤ w.heap.size; omega) _))
end Go.Proofs.YtgfimkeopohjaaaDoor

namespace Go.Proofs.YtgfimkeopohjaaaDoor
open Go Go.ChangeShapes Go.WideShapes Go.ChangeAt Go.RowKit

def slack : List Int := [90, 91, 92, 93]
def LentPost (w : World) (xs : List Int) (n : Nat) (e : Ending) (w' : World) : Prop := ∃ g, e = .returned (.slice (some ⟨g, 0, none⟩) n (n + 4)) ∧ w'.ownsRow w.heap.size 5 1 (.slice (some ⟨g, 0, none⟩) (n + 4) (n + 4)) (n + 4) (u8l (xs ++ slack)) ∧ Below w.heap.size w w'
set_option maxRecDepth 100000 in
set_option maxHeartbeats 1000000 in
theorem Lent_any (w : World) (ad : Option Addr) (ka n : Nat) (xs : List Int) (ha : Bs w w.heap.size ad xs) (hn : n = xs.length) (hn2 : n ≤ 140737488351232) : Calls Tryd.prog 17 #[.slice ad n ka] w (LentPost w xs n) := by
  obtain ⟨i0, hi, hz0, hz1, hz2⟩ := info_parts info5
  have hi' := hid hi
  have hz0' := hid hz0
  have hz1' := hid hz1
  have hz2' := hid hz2
  have HA := hid ha
  have HN := hid hn
  clear ha hn hi hz0 hz1 hz2
  go_enter Tryd.func17, Tryd.ntmps17
  go_wp2_with ((with_reducible refine at_op ⟨some 8, _, _, _, _, _⟩ ?_); go_loud (refine wpList_make_own _ rfl (.const (.int .i64 0)) (.tmp 7) 40 rfl w.heap.size 5 i0 (.int .u8 0) 1 Tryd.underlying40 hi'.out hz0'.out hz1'.out .i64 .i64 ((n : Int) + 4) (n + 4) rfl rfl (by simp) (by rw [hz2'.out]; omega) (by unfold maxLen; omega) (Nat.le_refl _) ?_; intro w1 hown1 hgrow1))
  have hB1 : Below w.heap.size w w1 := (Below.refl _ w).grown hgrow1 (Nat.le_refl _) (fun k hk => by cases hk)
  obtain ⟨g, hg⟩ : ∃ g, g = w.heap.size := ⟨_, rfl⟩
  have HO1 := hid hown1
  have HB1 := hid hB1
  have HG := hid hg
  clear hown1 hgrow1 hB1
  rw [← hg]
  clear hg
  go_loopw [3, 4] (fun ov i wr => ∃ q : Nat, q ≤ n ∧ i = .int .i64 q ∧ ov = .slice (some ⟨g, 0, none⟩) q (n + 4) ∧ RowKit.Hid (wr.ownsRow w.heap.size 5 1 (.slice (some ⟨g, 0, none⟩) q (n + 4)) q (u8l (xs.take q))) ∧ RowKit.Hid (Below w.heap.size w wr)) (fun _ i _ => n - (intOf i).toNat)
  case atStart => exact ⟨0, by omega, rfl, rfl, hid (by rw [HG.out]; exact HO1.out), HB1⟩
  case round =>
    obtain ⟨q, hq, rfl, rfl, HR, HW⟩ := hrel
    by_cases hqn : q < n
    · obtain ⟨b, o, rfl, _⟩ := HA.out.some (by have := HN.out; omega)
      have hla : q < xs.length := by rw [← HN.out]; exact hqn
      have cq := (HA.out.below HW.out).cell hla
      have hx := getD_at hla
      generalize xs.getD q 0 = x at *
      have HX := hid hx
      clear hx hla
      have hs := HW.out.size
      go_wp2_with (at_builtin; refine wpList_append_fits _ (o := ⟨some 21, _, _, _, _, _⟩) rfl (.tmp 15) (.tmp 20) 40 rfl w.heap.size 5 i0 1 Tryd.underlying40 hi'.out hz1'.out g q (n + 4) _ rfl (HR.out.alloc _) ⟨wr.heap.size, 0, none⟩ 1 1 [.int .u8 x] rfl rfl (World.news_of_block (heap_alloc_new wr _)) (by simp [Value.oneCell']) (by omega) ?_; intro w5 hown5 hgrow5; have HO5 := hid hown5; have HG5 := hid hgrow5; clear hown5 hgrow5)
      have hb5 : Below w.heap.size w w5 := (HW.out.alloc hs _).grown HG5.out (by simp; omega) (fun k hk => by cases hk; rw [HG.out]; exact Nat.le_refl _)
      have HB5 := hid hb5
      have htk : u8l (xs.take (q + 1)) = u8l (xs.take q) ++ [.int .u8 x] := by rw [List.take_add_one, HX.out]; simp [u8l]
      have HTK := hid htk
      clear hb5 htk
      go_roundw
      case rel => exact ⟨q + 1, by omega, by go_num, rfl, hid (by rw [HTK.out]; exact HO5.out), HB5⟩
      case measure => simp [intOf]; omega
    · obtain rfl : q = n := by omega
      have hs := HW.out.size
      have hall : xs.take q = xs := List.take_of_length_le (by rw [HN.out]; omega)
      have hr := HR.out
      rw [hall] at hr
      have HR2 := hid hr
      clear hall hr HR
      go_wp2_with (at_builtin; refine wpList_append_fits _ (o := ⟨some 24, _, _, _, _, _⟩) rfl (.tmp 22) (.tmp 23) 40 rfl w.heap.size 5 i0 1 Tryd.underlying40 hi'.out hz1'.out g q (q + 4) _ rfl (HR2.out.alloc _) ⟨wr.heap.size, 0, none⟩ 4 4 (u8l slack) rfl rfl (World.news_of_block (heap_alloc_new wr _)) (by simp [Value.oneCell', u8l, slack]) (by omega) ?_; intro w5 hown5 hgrow5; have HO5 := hid hown5; have HG5 := hid hgrow5; clear hown5 hgrow5)
      have hb5 : Below w.heap.size w w5 := (HW.out.alloc hs _).grown HG5.out (by simp; omega) (fun k hk => by cases hk; rw [HG.out]; exact Nat.le_refl _)
      have HB5 := hid hb5
      go_ret
      exact ⟨g, rfl, by rw [u8l_app]; exact HO5.out, HB5.out⟩
set_option maxRecDepth 100000 in
set_option maxHeartbeats 1000000 in
/-- Kept: what was lent is as it was, and so is what lies behind it. -/
theorem Kept_any (w : World) (b o ka cb n : Nat) (ad : Option Addr) (xs ys : List Int) (hin : Bs w w.heap.size (some ⟨b, o, none⟩) (xs ++ slack)) (hw : Bs w w.heap.size ad ys) (hx : n = xs.length) (hy : n = ys.length) (hc : n + 4 ≤ ka) (hn2 : n ≤ 140737488351232) :
    Calls Tryd.prog 21 #[.slice (some ⟨b, o, none⟩) n ka, .slice ad n cb] w fun e w' => e = .returned (.bool (xs == ys)) ∧ Below w.heap.size w w' := by
  have h1 : Bs w w.heap.size (some ⟨b, o, none⟩) xs := by
    have := hin.take xs.length
    rw [List.take_left' rfl] at this; exact this
  have HS := hid (SameBytes_any w (some ⟨b, o, none⟩) ad ka cb n n xs ys hx hy h1 hw hn2 hn2)
  have HIN := hid hin
  have HX := hid hx
  clear hin hw hx hy h1
  go_enter Tryd.func21, Tryd.ntmps21
  go_wp2
  go_loop [6] (fun i => ∃ q : Nat, q ≤ 4 ∧ i = .int .i64 q) (fun i => 4 - (intOf i).toNat)
  case atStart => exact ⟨0, by omega, rfl⟩
  case round =>
    obtain ⟨q, hq, rfl⟩ := hrel
    by_cases hq4 : q < 4
    · have hq' : q = 0 ∨ q = 1 ∨ q = 2 ∨ q = 3 := by omega
      have cq := HIN.out.cell (j := n + q) (by have := HX.out; simp [slack]; omega)
      have e : (xs ++ slack).getD (n + q) 0 = 90 + (q : Int) := by
        rw [HX.out]
        rcases hq' with rfl | rfl | rfl | rfl <;> simp [slack]
      rw [e] at cq
      have hw8 : IntKind.u8.wrap (90 + (q : Int)) = 90 + (q : Int) := IntWalk.u8_in _ ⟨by omega, by omega⟩
      have hd : (90 + (q : Int) != 90 + (q : Int)) = false := by simp
      clear e hq'
      go_wp2
      go_round
      case rel => exact ⟨q + 1, by omega, by go_num⟩
      case measure => simp [intOf]; omega
    · obtain rfl : q = 4 := by omega
      go_wp2_with fail
      refine HS.out.mono ?_
      rintro e w2 ⟨rfl, h2⟩
      have H2 := hid h2
      clear h2
      go_wp2
      go_ret
      exact ⟨rfl, H2.out⟩
end Go.Proofs.YtgfimkeopohjaaaDoor

namespace Go.Proofs.YtgfimkeopohjaaaDoor
open Go Go.ChangeShapes Go.WideShapes Go.ChangeAt Go.RowKit

/-- What Decode answers. -/
def DeP (w : World) (b : List Int) (e : Ending) (w' : World) : Prop :=
  ∃ a c, e = .returned (.tuple #[.agg #[.slice a (decM b).1.length c], .int .i64 (if (decM b).2 then 0 else 5)]) ∧ RwC w' w'.heap.size a (decM b).1 ∧ (decM b).1.length ≤ c ∧ c ≤ 9223372036854775807 ∧ Below w.heap.size w w'
def DeC (w0 : World) : Prop := ∀ (b : List Int) (ad : Option Addr) (n cap : Nat) (w : World), Below w0.heap.size w0 w → Bs w w.heap.size ad b → n = b.length → Byt b → n ≤ cap → cap ≤ 9223372036854775807 → n ≤ 1000000 →
  Calls Tryd.prog 18 #[.slice ad n cap] w (DeP w b)
def boxM (w : World) (v : Value) : World := w.alloc (.cells #[v] 24)
theorem boxM_boxed (w : World) (v : Value) : Boxed (boxM w v) w.heap.size 24 v := Boxed.new w _ v
theorem boxM_below (w : World) (v : Value) : Below w.heap.size w (boxM w v) := (Below.refl _ _).alloc (Nat.le_refl _) _
set_option maxRecDepth 100000 in
set_option maxHeartbeats 8000000 in
theorem ClassDecodes_any (w : World) (HD : DeC w) (HA : AwM w) (ad : Option Addr) (n cap : Nat) (b : List Int) (hbs : Bs w w.heap.size ad b) (hn : n = b.length) (hby : Byt b) (hc : n ≤ cap) :
    Calls Tryd.prog 5 #[.slice ad n cap] w fun e w' => e = .returned (.bool true) ∧ Below w.heap.size w w' := by
  have HAW := hid HA
  have HDD := hid HD
  have HBS := hid hbs
  have HN := hid hn
  have HBY := hid hby
  clear hbs hn hby HA HD
  by_cases hgr : 20000 < n
  · have d1 : decide (20000 < (n : Int)) = true := by simp; omega
    clear hgr
    go_enter Tryd.func5, Tryd.ntmps5
    go_wp2_with fail
    refine (HAW.out w (Below.refl _ _)).mono ?_
    rintro e w3 ⟨rfl, hb3⟩
    have HB3 := hid hb3
    clear hb3
    go_wp2
    go_ret
    exact ⟨rfl, HB3.out⟩
  have d1 : decide (20000 < (n : Int)) = false := by simp; omega
  have hl : n ≤ 20000 := by omega
  clear hgr
  obtain ⟨l, hl2⟩ : ∃ l, l = (decM b).1 := ⟨_, rfl⟩
  obtain ⟨ok, hok⟩ : ∃ l, l = (decM b).2 := ⟨_, rfl⟩
  have HLL := hid hl2
  have HOK := hid hok
  clear hl2 hok
  go_enter Tryd.func5, Tryd.ntmps5
  go_wp2_with fail
  refine (Lent_any w ad cap n b HBS.out HN.out (by omega)).mono ?_
  rintro e w1 ⟨g, rfl, hown, hb1⟩
  have hin : Bs w1 w1.heap.size (some ⟨g, 0, none⟩) (b ++ slack) := own_bs hown
  have hin2 : Bs w1 w1.heap.size (some ⟨g, 0, none⟩) b := by
    have := hin.take b.length
    rw [List.take_left' rfl] at this; exact this
  have HIN := hid hin
  have HB1 := hid hb1
  have HDX := hid (HDD.out b (some ⟨g, 0, none⟩) n (n + 4) w1 hb1 hin2 HN.out HBY.out (by omega) (by omega) (by omega))
  unfold DeP at HDX
  rw [← HLL.out, ← HOK.out] at HDX
  obtain ⟨ec, hec⟩ : ∃ x : Int, x = if ok = true then 0 else 5 := ⟨_, rfl⟩
  rw [← hec] at HDX
  have HEC := hid hec
  clear hec
  clear hown hin hin2 hb1
  go_wp2_with fail
  refine HDX.out.mono ?_
  rintro e w2 ⟨a1, c1, rfl, hr1, hc1, hc1m, hb2⟩
  obtain ⟨N, hN⟩ : ∃ N, N = l.length := ⟨_, rfl⟩
  rw [← hN] at hc1 ⊢
  have HNN := hid hN
  have HR2 := hid hr1
  have HB2 := hid (HB1.out.trans (hb2.mono HB1.out.size))
  have HIN2 := hid ((HIN.out.below hb2).mono hb2.size)
  clear hN hr1 hb2 HDX HIN HB1
  go_upto_region 5 with (fail)
  change Code.wp _ _ _ _ (boxM w2 (.slice a1 N c1))
  have hb3 := boxM_below w2 (.slice a1 N c1)
  have hm3 := boxM_boxed w2 (.slice a1 N c1)
  obtain ⟨w3, hw3⟩ : ∃ x, x = boxM w2 (.slice a1 N c1) := ⟨_, rfl⟩
  rw [← hw3] at hb3 hm3 ⊢
  obtain ⟨p4, hp4⟩ : ∃ x, x = w2.heap.size := ⟨_, rfl⟩
  rw [← hp4] at hm3 ⊢
  have HM3 := hid hm3
  have HR3 := hid (HR2.out.on hb3)
  have HB3 := hid (HB2.out.trans (hb3.mono HB2.out.size))
  have HIN3 := hid ((HIN2.out.below hb3).mono hb3.size)
  clear hb3 hm3 hw3 hp4 HR2 HB2 HIN2
  go_wp2_with fail
  refine (RDecode_any w3 ad cap n b ((HBS.out.below HB3.out).mono HB3.out.size) HN.out HBY.out hc (by omega)).mono ?_
  rintro e w4 ⟨v4, rfl, hsl, hb4⟩
  rw [← HLL.out] at hsl
  rw [← HOK.out]
  obtain ⟨a2, c2, rfl, hr2, hc2, hc2m⟩ := hsl
  rw [← HNN.out] at hc2 ⊢
  have HR4 := hid hr2
  have HS4 := hid (HR3.out.on hb4)
  have HM4 := hid ((hb4.block _ HM3.out.lt).trans HM3.out)
  have HB4 := hid (HB3.out.trans (hb4.mono HB3.out.size))
  have HIN4 := hid ((HIN3.out.below hb4).mono hb4.size)
  clear hr2 hb4 HM3 HR3 HB3 HIN3
  go_upto_region 6 with (fail)
  change Code.wp _ _ _ _ (boxM w4 (.slice a2 N c2))
  have hb5 := boxM_below w4 (.slice a2 N c2)
  have hm5 := boxM_boxed w4 (.slice a2 N c2)
  obtain ⟨w5, hw5⟩ : ∃ x, x = boxM w4 (.slice a2 N c2) := ⟨_, rfl⟩
  rw [← hw5] at hb5 hm5 ⊢
  obtain ⟨p6, hp6⟩ : ∃ x, x = w4.heap.size := ⟨_, rfl⟩
  rw [← hp6] at hm5 ⊢
  have cm6 := hm5.cell
  have cm4 : w5.cell? ⟨p4, 0, none⟩ = some (.slice a1 N c1) := Boxed.cell ((hb5.block _ (Boxed.lt HM4.out)).trans HM4.out)
  have HS5 := hid (HS4.out.on hb5)
  have HR5 := hid (HR4.out.on hb5)
  have HB5 := hid (HB4.out.trans (hb5.mono HB4.out.size))
  have HIN5 := hid ((HIN4.out.below hb5).mono hb5.size)
  clear hb5 hm5 hw5 hp6 HS4 HR4 HM4 HB4 HIN4
  go_wp2_with fail
  refine (Same_any l l a1 a2 c1 c2 N N w5 HS5.out HR5.out HNN.out HNN.out hc1 hc2 hc1m).mono ?_
  rintro e w6 ⟨r, rfl, hr, hb6⟩
  obtain rfl : r = true := hr.2 rfl
  have HB6 := hid (HB5.out.trans (hb6.mono HB5.out.size))
  have HK := hid (Kept_any w6 g 0 (n + 4) cap n ad b b ((HIN5.out.below hb6).mono hb6.size) ((HBS.out.below HB6.out).mono HB6.out.size) HN.out HN.out (by omega) (by omega))
  have hbb : (b == b) = true := by simp
  rw [hbb] at HK
  clear hr hb6 cm4 cm6 hbb
  cases ok with
  | true =>
    obtain rfl : ec = 0 := HEC.out
    go_wp2_with fail
    refine HK.out.mono ?_
    rintro e w7 ⟨rfl, hb7⟩
    have HB7 := hid (HB6.out.trans (hb7.mono HB6.out.size))
    clear hb7 HK
    go_wp2_with fail
    refine (HAW.out w7 HB7.out).mono ?_
    rintro e w8 ⟨rfl, hb8⟩
    have HB8 := hid (HB7.out.trans (hb8.mono HB7.out.size))
    clear hb8
    go_wp2
    go_ret
    exact ⟨rfl, HB8.out⟩
  | false =>
    obtain rfl : ec = 5 := HEC.out
    go_wp2_with fail
    refine HK.out.mono ?_
    rintro e w7 ⟨rfl, hb7⟩
    have HB7 := hid (HB6.out.trans (hb7.mono HB6.out.size))
    clear hb7 HK
    go_wp2_with fail
    refine (HAW.out w7 HB7.out).mono ?_
    rintro e w8 ⟨rfl, hb8⟩
    have HB8 := hid (HB7.out.trans (hb8.mono HB7.out.size))
    clear hb8
    go_wp2
    go_ret
    exact ⟨rfl, HB8.out⟩
end Go.Proofs.YtgfimkeopohjaaaDoor
