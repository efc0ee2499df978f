/-
  The law WireWrites: what each call of the law's function comes to.
-/
import Derived.Test.YtdpdibhapjgdeaaWrJ
import Derived.Test.YtdpdibhapjgdeaaWrK
namespace Go.Proofs.Ytdpdibhapjgdeaa
open Go Go.ChangeShapes Go.WideShapes Go.ChangeAt Go.RowKit

/-- The law's writer, and the row that is wanted. -/
structure WkAt (w W : World) (p : Nat) (v ov : Value) (xs zs : List Int) : Prop where
  wr : WrOwn w W p v xs
  want : W.ownsRow w.heap.size 5 1 ov zs.length (u8l zs)
  ne : ∀ j, ov.ownBlock = some j → j ≠ p ∧ v.ownBlock ≠ some j
theorem WkAt.on {w W W' : World} {p : Nat} {v ov : Value} {xs zs : List Int} (h : WkAt w W p v ov xs zs) (hB : Below W.heap.size W W') : WkAt w W' p v ov xs zs :=
  ⟨h.wr.on hB, (Fr.of_below (fp := fun _ => False) hB).owns h.want (fun _ _ h => h), h.ne⟩
theorem WkAt.to {w W W' : World} {p : Nat} {v v' ov : Value} {xs ys zs : List Int} (h : WkAt w W p v ov xs zs) (k : WrTo W p v W' v' ys) : WkAt w W' p v' ov ys zs :=
  ⟨h.wr.to k, k.fr.owns h.want (fun j hj e => by
    rcases e with e | e
    · exact (h.ne j hj).1 e
    · exact (h.ne j hj).2 e), fun j hj => ⟨(h.ne j hj).1, fun e => by
    rcases k.own j e with e1 | e1
    · exact (h.ne j hj).2 e1
    · have := (h.want.lt j hj).2; omega⟩⟩
theorem WkAt.new {w W W' : World} {p : Nat} {v ov ov' : Value} {xs zs : List Int} (h : WkAt w W p v ov xs zs) (hB : Below W.heap.size W W') (hr : W'.ownsRow W.heap.size 5 1 ov' xs.length (u8l xs)) : WkAt w W' p v ov' xs xs :=
  ⟨h.wr.on hB, owns_low hr h.wr.below.size, fun j hj => by
    have h1 := (hr.lt j hj).1
    have h2 := h.wr.wr.lt
    exact ⟨by omega, fun e => by have := (h.wr.wr.row.lt j e).2; omega⟩⟩
/-- How the law stands between two rounds. -/
def WkRel (w wr : World) (p : Nat) (ov : Value) (q : Nat) : Prop := ∃ v xs, WkAt w wr p v ov xs xs ∧ xs.length ≤ 70010 * q
/-- The item in its box. -/
def BoxAt (W : World) (bx : Nat) (y : It) (T : Nat) : Prop := W.heap[bx]? = some (.cells #[.bool y.t, .int .u64 y.n, .int .i64 y.s, .slice y.a T y.c] 30 (0, 0))
theorem BoxAt.on {W W' : World} {bx : Nat} {y : It} {T : Nat} (h : BoxAt W bx y T) (hB : Below W.heap.size W W') : BoxAt W' bx y T := (hB.block bx (lt_of_heap h)).trans h
theorem BoxAt.fr {W W' : World} {bx : Nat} {y : It} {T : Nat} {fp : Nat → Prop} (h : BoxAt W bx y T) (hf : Fr fp W W') (hn : ¬ fp bx) : BoxAt W' bx y T := (hf.block bx (lt_of_heap h) hn).trans h
theorem BoxAt.c1 {W : World} {bx : Nat} {y : It} {T : Nat} (h : BoxAt W bx y T) : W.cell? ⟨bx, 1, none⟩ = some (.int .u64 y.n) := by rw [cell_of_row W bx 1 _ 30 _ h]; rfl
theorem BoxAt.c2 {W : World} {bx : Nat} {y : It} {T : Nat} (h : BoxAt W bx y T) : W.cell? ⟨bx, 2, none⟩ = some (.int .i64 y.s) := by rw [cell_of_row W bx 2 _ 30 _ h]; rfl
theorem BoxAt.c3 {W : World} {bx : Nat} {y : It} {T : Nat} (h : BoxAt W bx y T) : W.cell? ⟨bx, 3, none⟩ = some (.slice y.a T y.c) := by rw [cell_of_row W bx 3 _ 30 _ h]; rfl
theorem WkAt.fr {w W W' : World} {p : Nat} {v ov : Value} {xs zs : List Int} {fp : Nat → Prop} (h : WkAt w W p v ov xs zs) (hf : Fr fp W W') (h0 : ∀ k, fp k → w.heap.size ≤ k) (hp : ¬ fp p) (hv : ∀ k, v.ownBlock = some k → ¬ fp k) (ho : ∀ k, ov.ownBlock = some k → ¬ fp k) : WkAt w W' p v ov xs zs :=
  ⟨⟨h.wr.wr.fr hf hp hv, h.wr.below.trans (hf.below h.wr.below.size h0), h.wr.lo, h.wr.own⟩, hf.owns h.want ho, h.ne⟩
/-- Bytes that the law turns: a row of its own beside the writer. -/
def MdRel (w W : World) (p : Nat) (v ov : Value) (xs : List Int) (a2 : Option Addr) (L : Nat) : Prop := WkAt w W p v ov xs xs ∧ (0 < L → ∃ (g : Nat) (cur : Array Value), a2 = some ⟨g, 0, none⟩ ∧ W.heap[g]? = some (.cells cur 5 (0, 0)) ∧ (∀ j, j < L → ∃ x : Int, cur[j]? = some (.int .u8 x)) ∧ w.heap.size ≤ g ∧ g ≠ p ∧ v.ownBlock ≠ some g ∧ ov.ownBlock ≠ some g)
theorem MdRel.start {w W0 W : World} {p L k2 : Nat} {v ov : Value} {xs : List Int} {a2 : Option Addr} (h : WkAt w W p v ov xs xs) (h0 : WkAt w W0 p v ov xs xs) (hr : W.ownsRow W0.heap.size 5 1 (.slice a2 L k2) L (u8l xs)) : MdRel w W p v ov xs a2 L := by
  refine ⟨h, fun hL => ?_⟩
  rcases hr.2 with ⟨_, q2⟩ | ⟨g, cap, cur, hv, hb, hg, hn, hm, hc, ht⟩
  · omega
  · cases hv
    have hlen : xs.length = L := own_len hr
    refine ⟨g, cur, rfl, hg, fun j hj => ⟨xs.getD j 0, ?_⟩, Nat.le_trans h0.wr.below.size hb, ?_, ?_, ?_⟩
    · have h3 : (cur.toList.take (L * 1))[j]? = (u8l xs)[j]? := by rw [ht]
      rw [List.getElem?_take, if_pos (by omega), u8l_at (by omega)] at h3
      simpa using h3
    · have := h0.wr.wr.lt; omega
    · intro e; have := (h0.wr.wr.row.lt g e).2; omega
    · intro e; have := (h0.want.lt g e).2; omega
theorem MdRel.on {w W W' : World} {p L : Nat} {v ov : Value} {xs : List Int} {a2 : Option Addr} (h : MdRel w W p v ov xs a2 L) (hB : Below W.heap.size W W') : MdRel w W' p v ov xs a2 L :=
  ⟨h.1.on hB, fun hL => by
    obtain ⟨g, cur, h1, h2, h3⟩ := h.2 hL
    exact ⟨g, cur, h1, (hB.block g (lt_of_heap h2)).trans h2, h3⟩⟩
theorem MdRel.at {w W : World} {p L j : Nat} {v ov : Value} {xs : List Int} {a2 : Option Addr} (h : MdRel w W p v ov xs a2 L) (hj : j < L) :
    ∃ (g : Nat) (x : Int), a2 = some ⟨g, 0, none⟩ ∧ W.cell? ⟨g, j, none⟩ = some (.int .u8 x) ∧ W.frozen? ⟨g, j, none⟩ = false ∧ ∀ z : Int, MdRel w (W.setCell ⟨g, j, none⟩ (.int .u8 z)) p v ov xs a2 L := by
  obtain ⟨g, cur, h1, h2, h3, h4, h5, h6, h7⟩ := h.2 (by omega)
  obtain ⟨x, hx⟩ := h3 j hj
  refine ⟨g, x, h1, by rw [cell_of_row W g j cur 5 (0, 0) h2]; exact hx, frozen_of_row W g j cur 5 h2, fun z => ⟨?_, fun _ => ⟨g, cur.setIfInBounds j (.int .u8 z), h1, heap_setCell_same W g j cur 5 _ h2, fun i hi => ?_, h4, h5, h6, h7⟩⟩⟩
  · refine h.1.fr (fp := fun k => k = g) ((Fr.refl _ W).setCell _ _ (fun _ => rfl)) (fun k hk => by rw [hk]; exact h4) (fun e => h5 e.symm) (fun k hk e => h6 (by rw [← e]; exact hk)) (fun k hk e => h7 (by rw [← e]; exact hk))
  · by_cases e : i = j
    · subst e
      exact ⟨z, by rw [Array.getElem?_setIfInBounds_self_of_lt (Array.getElem?_eq_some_iff.1 hx).1]⟩
    · obtain ⟨y, hy⟩ := h3 i hi
      exact ⟨y, by rw [Array.getElem?_setIfInBounds_ne (fun h => e h.symm)]; exact hy⟩
set_option maxHeartbeats 4000000 in
set_option maxRecDepth 100000 in
theorem WireWrites_any (w : World) (ad : Option Addr) (n cap : Nat) (l : List It) (h : IRow w w.heap.size ad l) (hn : n = l.length) (hn2 : n ≤ 9223372036854775807) :
    Calls Try.prog 3 #[.slice ad n cap] w fun e w' => e = .returned (.bool true) ∧ Below w.heap.size w w' := by
  have H := hid h
  have HN := hid hn
  have HN2 := hid hn2
  have HGR := hid (great_any w ad n cap l h hn hn2)
  clear h hn hn2
  go_enter Try.func3, Try.ntmps3
  go_wp2_with fail
  refine HGR.out.mono ?_
  rintro e w0 ⟨gb, rfl, hg, rfl⟩
  cases gb with
  | true =>
    clear hg HGR
    go_wp2_with fail
    refine (awake_any _).mono ?_
    rintro e w2 ⟨rfl, h2⟩
    have H2 := hid h2
    clear h2
    go_wp2
    go_ret
    exact ⟨rfl, H2.out⟩
  | false =>
    have HL7 := hid (hg rfl)
    clear hg HGR
    go_wp2_with fail
    refine (NewWriter_any _).mono ?_
    rintro e w1 ⟨rfl, rfl⟩
    have h1 := WrOwn.new w
    obtain ⟨p, hp⟩ : ∃ p, p = w.heap.size := ⟨_, rfl⟩
    obtain ⟨w1, hw1⟩ : ∃ w1, w1 = w.alloc (.cells #[.slice none 0 0] 59) := ⟨_, rfl⟩
    rw [← hw1, ← hp] at h1 ⊢
    have H1 := hid h1
    clear hw1 h1 hp
    go_wp2
    go_loopw [4, 5] (fun ov i wr => ∃ q : Nat, q ≤ n ∧ q ≤ 100 ∧ i = .int .i64 q ∧ RowKit.Hid (WkRel w wr p ov q)) (fun _ i _ => 100 - (intOf i).toNat)
    case atStart => exact ⟨0, by omega, by omega, rfl, hid ⟨_, [], ⟨H1.out, World.ownsRow_nil _ _ _ _, (fun j h => by simp [Value.ownBlock] at h)⟩, by simp⟩⟩
    case round =>
      obtain ⟨q, hq, hq1, rfl, HR⟩ := hrel
      by_cases hqn : q < n
      · by_cases hq9 : q < 100
        · obtain ⟨v, xs, ho, hxl⟩ := HR.out
          obtain ⟨b, o, rfl, _⟩ := H.out.some (by have := HN.out; omega)
          have hy : l[q]? = some (l[q]'(by have := HN.out; omega)) := List.getElem?_eq_getElem _
          generalize l[q]'(by have := HN.out; omega) = y at hy
          have HY := hid hy
          have i1 := H.out.below ho.wr.below
          have c0 := i1.c0 hy
          have c1 := i1.c1 hy
          have c2 := i1.c2 hy
          have c3 := i1.c3 hy
          have hok := H.out.ok y (List.mem_of_getElem? hy)
          have HOK := hid hok
          have HTX := hid (H.out.txt y (List.mem_of_getElem? hy))
          obtain ⟨T, hT⟩ : ∃ T, T = y.x.length := ⟨_, rfl⟩
          have hT7 : T ≤ 70000 := by rw [hT]; exact HL7.out q y hq9 hy
          rw [← hT] at c3
          have HT := hid hT
          obtain ⟨L, hL⟩ : ∃ L, L = xs.length := ⟨_, rfl⟩
          rw [← hL] at hxl
          obtain ⟨oa, ok, rfl, hok0⟩ := own_form0 ho.want
          rw [← hL] at ho ⊢
          have HO := hid ho
          have HL := hid hL
          have HK0 := hid hok0
          clear ho hy HR hok i1 hT hL hok0
          cases hyt : y.t with
          | true =>
            rw [hyt] at c0
            go_wp2_with fail
            obtain ⟨w2, hw2⟩ : ∃ w2, w2 = wr.alloc (.cells #[.bool true, .int .u64 y.n, .int .i64 y.s, .slice y.a T y.c] 30) := ⟨_, rfl⟩
            obtain ⟨bx, hbx⟩ : ∃ bx, bx = wr.heap.size := ⟨_, rfl⟩
            have hbox : BoxAt w2 bx y T := by
              unfold BoxAt
              rw [hw2, hbx, hyt]
              exact heap_alloc_new _ _
            have hb2 : Below wr.heap.size wr w2 := by rw [hw2]; exact (Below.refl _ _).alloc (Nat.le_refl _) _
            have hnb : ¬ (bx = p ∨ v.ownBlock = some bx) := fun e => by
              rcases e with e | e
              · have := HO.out.wr.wr.lt; omega
              · have := (HO.out.wr.wr.row.lt bx e).2; omega
            have ho2 := HO.out.on hb2
            have hi2 := ((HTX.out.1.below HO.out.wr.below).below (hb2.mono HO.out.wr.below.size))
            rw [← hw2, ← hbx]
            have O2 := hid ho2
            have B2 := hid hbox
            have NB := hid hnb
            have I2 := hid (hi2.mono ho2.wr.below.size)
            clear hw2 hbx hbox hb2 hnb ho2 hi2 HO c0 c1 c2 c3 hyt
            refine (Lent_any w2 y.a y.c T y.x I2.out HT.out (by omega)).mono ?_
            rintro e w3 ⟨g, rfl, hrow3, hb3⟩
            have O3 := hid (O2.out.on hb3)
            have B3 := hid (B2.out.on hb3)
            have I3 := hid ((I2.out.below hb3).mono hb3.size)
            have hin := own_bs hrow3
            have hgp : g ≠ p ∧ v.ownBlock ≠ some g := by
              have h1 := (hrow3.lt g rfl).1
              have h2 := O2.out.wr.wr.lt
              exact ⟨by omega, fun e => by have := (O2.out.wr.wr.row.lt g e).2; omega⟩
            have HIN := hid hin
            have HGP := hid hgp
            clear hrow3 hb3 hin hgp
            have hin3 : Bs w3 w3.heap.size (some ⟨g, 0, none⟩) y.x := by
              have := HIN.out.take y.x.length
              rw [List.take_left' rfl] at this; exact this
            have HTE := hid (Text_any w3 p v xs y.x (some ⟨g, 0, none⟩) T (T + 4) O3.out.wr.wr hin3 HT.out (fun h => by cases h) (fun b o he => by cases he; exact HGP.out) (by rw [← HL.out]; omega) (by omega))
            clear hin3
            go_wp2_with fail
            refine HTE.out.mono ?_
            rintro e w4 ⟨rfl, v4, ht4⟩
            have O4 := hid (O3.out.to ht4)
            have hb4 := B3.out.fr ht4.fr NB.out
            have c34 := hb4.c3
            have B4 := hid hb4
            have hin4 := HIN.out.fr ht4.fr (fun b o he => by
              cases he
              intro e
              rcases e with e | e
              · exact HGP.out.1 e
              · exact HGP.out.2 e)
            have hi4 : Bs w4 w4.heap.size y.a y.x := ((HTX.out.1.below O4.out.wr.below).mono O4.out.wr.below.size)
            have HKP := hid (Kept_any w4 g 0 (T + 4) y.c T y.a y.x y.x hin4 hi4 HT.out HT.out (Nat.le_refl _) (by omega))
            clear ht4 hb4 hin4 hi4 HTE
            cases htk : textOk y.x with
            | true =>
              have hT5 : T ≤ 65535 := by unfold textOk at htk; have := HT.out; simp at htk; omega
              have u1 : decide ((T : Int) ≤ 65535) = true := by simp; omega
              rw [htk, if_pos rfl] at O4
              rw [show code true = 0 from rfl]
              clear htk
              go_wp2_with fail
              refine HKP.out.mono ?_
              rintro e w5 ⟨rfl, h5⟩
              have O5 := hid (O4.out.on h5)
              have hb5 := B4.out.on h5
              have c35 := hb5.c3
              have hi5 : Bs w5 w5.heap.size y.a y.x := ((HTX.out.1.below O5.out.wr.below).mono O5.out.wr.below.size)
              have hwb : Bs w5 w5.heap.size oa xs := by
                have := O5.out.want
                rw [← HL.out] at this
                exact own_bs this
              have HRT := hid (RText_any w5 oa y.a ok L y.c T xs y.x hwb HL.out (by rw [HL.out]; exact HK0.out) hi5 HT.out (by rw [HT.out]; exact HTX.out.2) (by omega) hT5)
              rw [show (y.x == y.x) = true by simp]
              clear h5 hb5 hi5 hwb HKP c34
              go_wp2_with fail
              refine HRT.out.mono ?_
              rintro e w6 ⟨v6, rfl, hrow6, hb6⟩
              have O6 := hid (O5.out.new hb6 hrow6)
              have hlen6 : (layT xs y.x).length ≤ 70010 * (q + 1) := by
                have h1 := layT_len xs y.x
                have h2 := gap_lt (n := xs.length) (k := 4) (.inr (.inr (.inl rfl)))
                have h3 := HL.out
                have h4 := HT.out
                omega
              have HLEN6 := hid hlen6
              clear hrow6 hb6 hlen6 HRT c35 u1
              go_wp2
              go_roundw
              case rel => exact ⟨q + 1, by omega, by omega, by go_num, hid ⟨_, _, O6.out, HLEN6.out⟩⟩
              case measure => simp [intOf]; omega
            | false =>
              have hT5 : 65535 < T := by unfold textOk at htk; have := HT.out; simp at htk; omega
              have u1 : decide ((T : Int) ≤ 65535) = false := by simp; omega
              rw [htk, if_neg (by simp)] at O4
              rw [show code false = 1 from rfl]
              clear htk
              go_wp2_with fail
              refine HKP.out.mono ?_
              rintro e w5 ⟨rfl, h5⟩
              have O5 := hid (O4.out.on h5)
              have c35 := (B4.out.on h5).c3
              rw [show (y.x == y.x) = true by simp]
              clear h5 HKP c34
              go_wp2
              go_roundw
              case rel => exact ⟨q + 1, by omega, by omega, by go_num, hid ⟨v4, xs, O5.out, by have := HL.out; omega⟩⟩
              case measure => simp [intOf]; omega
          | false =>
            rw [hyt] at c0
            go_wp2_with fail
            obtain ⟨w2, hw2⟩ : ∃ w2, w2 = wr.alloc (.cells #[.bool false, .int .u64 y.n, .int .i64 y.s, .slice y.a T y.c] 30) := ⟨_, rfl⟩
            obtain ⟨bx, hbx⟩ : ∃ bx, bx = wr.heap.size := ⟨_, rfl⟩
            have hbox : BoxAt w2 bx y T := by
              unfold BoxAt
              rw [hw2, hbx, hyt]
              exact heap_alloc_new _ _
            have hb2 : Below wr.heap.size wr w2 := by rw [hw2]; exact (Below.refl _ _).alloc (Nat.le_refl _) _
            have hnb : ¬ (bx = p ∨ v.ownBlock = some bx) := fun e => by
              rcases e with e | e
              · have := HO.out.wr.wr.lt; omega
              · have := (HO.out.wr.wr.row.lt bx e).2; omega
            have ho2 := HO.out.on hb2
            rw [← hw2, ← hbx]
            have O2 := hid ho2
            have B2 := hid hbox
            have NB := hid hnb
            clear hw2 hbx hbox hb2 hnb ho2 HO c0 c1 c2 c3 hyt
            refine (Num_any w2 p v xs y.n y.s O2.out.wr.wr HOK.out.1.1 (by rw [← HL.out]; omega)).mono ?_
            rintro e w4 ⟨rfl, v4, ht4⟩
            have O4 := hid (O2.out.to ht4)
            have hb4 := B2.out.fr ht4.fr NB.out
            have c14 := hb4.c1
            have c24 := hb4.c2
            have HF := hid (fun w => Fits_any y.s w)
            have y0 := HOK.out.1.1
            have y1 := HOK.out.1.2
            clear ht4 hb4
            cases hf : fits y.s with
            | false =>
              have hno := numOk_no (n := y.n) hf
              rw [hno, if_neg (by simp)] at O4
              rw [hno, show code false = 1 from rfl]
              rw [hf] at HF
              clear hf hno y0 y1
              go_wp2_with (go_at_call 17; refine (HF.out _).mono ?_; rintro e w' ⟨rfl, rfl⟩)
              go_roundw
              case rel => exact ⟨q + 1, by omega, by omega, by go_num, hid ⟨v4, xs, O4.out, by have := HL.out; omega⟩⟩
              case measure => simp [intOf]; omega
            | true =>
              obtain ⟨k, hyk, hk⟩ := fits_nat hf
              have HRM := hid (fun w => Room_any y.n k w hk y0 y1)
              have hnk := numOk_nat (n := y.n) hk
              rw [hf] at HF
              rw [hyk] at O4 HF c24 ⊢
              rw [hnk] at O4 ⊢
              cases hd : decide (y.n < 256 ^ k) with
              | false =>
                rw [hd, if_neg (by simp)] at O4
                rw [hd] at HRM
                rw [show code false = 1 from rfl]
                clear hf hnk hd y0 y1
                go_wp2_with (first | (go_at_call 17; refine (HF.out _).mono ?_; rintro e w' ⟨rfl, rfl⟩) | (go_at_call 18; refine (HRM.out _).mono ?_; rintro e w' ⟨rfl, rfl⟩))
                go_roundw
                case rel => exact ⟨q + 1, by omega, by omega, by go_num, hid ⟨v4, xs, O4.out, by have := HL.out; omega⟩⟩
                case measure => simp [intOf]; omega
              | true =>
                rw [hd, if_pos rfl, Int.toNat_natCast] at O4
                rw [hd] at HRM
                rw [show code true = 0 from rfl]
                have hwb : Bs w4 w4.heap.size oa xs := by
                  have := O4.out.want
                  rw [← HL.out] at this
                  exact own_bs this
                have HRT := hid (RNum_any w4 oa ok L xs y.n k hwb HL.out (by rw [HL.out]; exact HK0.out) hk y0 y1 (by omega))
                have hlen6 : (lay xs y.n k).length ≤ 70010 * (q + 1) := by
                  have h1 := lay_len xs y.n k
                  have h2 := gap_lt (n := xs.length) hk
                  have h3 := HL.out
                  have h4 : k ≤ 8 := by rcases hk with rfl | rfl | rfl | rfl <;> omega
                  omega
                have HLEN6 := hid hlen6
                clear hf hnk hd y0 y1 hwb hlen6 hk
                go_wp2_with (first | (go_at_call 17; refine (HF.out _).mono ?_; rintro e w' ⟨rfl, rfl⟩) | (go_at_call 18; refine (HRM.out _).mono ?_; rintro e w' ⟨rfl, rfl⟩) | fail)
                refine HRT.out.mono ?_
                rintro e w6 ⟨v6, rfl, hrow6, hb6⟩
                have O6 := hid (O4.out.new hb6 hrow6)
                clear hrow6 hb6 HRT
                go_wp2
                go_roundw
                case rel => exact ⟨q + 1, by omega, by omega, by go_num, hid ⟨_, _, O6.out, HLEN6.out⟩⟩
                case measure => simp [intOf]; omega
        · obtain rfl : q = 100 := by omega
          obtain ⟨v, xs, ho, hxl⟩ := HR.out
          obtain ⟨L, hL⟩ : ∃ L, L = xs.length := ⟨_, rfl⟩
          obtain ⟨oa, ok, rfl, hok0⟩ := own_form0 ho.want
          rw [← hL] at ho hxl hok0 ⊢
          have HL := hid hL
          have HO := hid ho
          have hL9 : L ≤ 7001000 := by omega
          have HBY := hid (Bytes_any wr p v xs ho.wr.wr (by rw [← hL]; omega))
          clear ho hL HR hok0 hxl
          go_wp2_with fail
          refine HBY.out.mono ?_
          rintro e w2 ⟨v2, rfl, hrow2, hb2⟩
          rw [← HL.out] at hrow2
          obtain ⟨a2, k2, rfl⟩ := own_form hrow2
          have HO2 := hid (HO.out.on hb2)
          have HM2 := hid (MdRel.start (HO.out.on hb2) HO.out hrow2)
          have hwb : Bs w2 w2.heap.size oa xs := by
            have := HO2.out.want
            rw [← HL.out] at this
            exact own_bs this
          have HSB := hid (SameBytes_any w2 a2 oa k2 ok L L xs xs HL.out HL.out (own_bs hrow2) hwb (by omega) (by omega))
          clear hrow2 hb2 hwb HBY
          go_wp2_with fail
          refine HSB.out.mono ?_
          rintro e w3 ⟨rfl, h3⟩
          have HM3 := hid (HM2.out.on h3)
          rw [show (xs == xs) = true by simp]
          clear h3 HSB
          go_wp2
          go_loopw [12] (fun i wx => ∃ j : Nat, j ≤ L ∧ i = .int .i64 j ∧ RowKit.Hid (MdRel w wx p v (.slice oa L ok) xs a2 L)) (fun i _ => L - (intOf i).toNat)
          case atStart => exact ⟨0, by omega, rfl, HM3⟩
          case round =>
            obtain ⟨j, hj, rfl, HX⟩ := hrel
            by_cases hjL : j < L
            · obtain ⟨g, x, rfl, cg, zg, hnx⟩ := HX.out.at hjL
              have HNX := hid hnx
              clear hnx
              go_wp2
              go_roundw
              case rel => exact ⟨j + 1, by omega, by go_num, hid (HNX.out _)⟩
              case measure => simp [intOf]; omega
            · obtain rfl : j = L := by omega
              have HO5 := hid HX.out.1
              have HBY2 := hid (Bytes_any _ p v xs HX.out.1.wr.wr (by rw [← HL.out]; omega))
              clear hjL
              go_wp2_with fail
              refine HBY2.out.mono ?_
              rintro e w6 ⟨v6, rfl, hrow6, hb6⟩
              rw [← HL.out] at hrow6
              obtain ⟨a6, k6, rfl⟩ := own_form hrow6
              have HO6 := hid (HO5.out.on hb6)
              have hwb : Bs w6 w6.heap.size oa xs := by
                have := HO6.out.want
                rw [← HL.out] at this
                exact own_bs this
              have HSB := hid (SameBytes_any w6 a6 oa k6 ok j j xs xs HL.out HL.out (own_bs hrow6) hwb (by omega) (by omega))
              clear hrow6 hb6 hwb HBY2
              go_wp2_with fail
              refine HSB.out.mono ?_
              rintro e w7 ⟨rfl, h7⟩
              have H7 := hid (HO6.out.wr.below.trans (h7.mono HO6.out.wr.below.size))
              rw [show (xs == xs) = true by simp]
              clear h7 HSB
              go_wp2_with fail
              refine (awake_any _).mono ?_
              rintro e w8 ⟨rfl, h8⟩
              have H8 := hid (H7.out.trans (h8.mono H7.out.size))
              clear h8
              go_wp2
              go_ret
              exact ⟨rfl, H8.out⟩
      · obtain rfl : q = n := by omega
        obtain ⟨v, xs, ho, hxl⟩ := HR.out
        obtain ⟨L, hL⟩ : ∃ L, L = xs.length := ⟨_, rfl⟩
        obtain ⟨oa, ok, rfl, hok0⟩ := own_form0 ho.want
        rw [← hL] at ho hxl hok0 ⊢
        have HL := hid hL
        have HO := hid ho
        have hL9 : L ≤ 7001000 := by omega
        have HBY := hid (Bytes_any wr p v xs ho.wr.wr (by rw [← hL]; omega))
        clear ho hL HR hok0 hxl
        go_wp2_with fail
        refine HBY.out.mono ?_
        rintro e w2 ⟨v2, rfl, hrow2, hb2⟩
        rw [← HL.out] at hrow2
        obtain ⟨a2, k2, rfl⟩ := own_form hrow2
        have HO2 := hid (HO.out.on hb2)
        have HM2 := hid (MdRel.start (HO.out.on hb2) HO.out hrow2)
        have hwb : Bs w2 w2.heap.size oa xs := by
          have := HO2.out.want
          rw [← HL.out] at this
          exact own_bs this
        have HSB := hid (SameBytes_any w2 a2 oa k2 ok L L xs xs HL.out HL.out (own_bs hrow2) hwb (by omega) (by omega))
        clear hrow2 hb2 hwb HBY
        go_wp2_with fail
        refine HSB.out.mono ?_
        rintro e w3 ⟨rfl, h3⟩
        have HM3 := hid (HM2.out.on h3)
        rw [show (xs == xs) = true by simp]
        clear h3 HSB
        go_wp2
        go_loopw [12] (fun i wx => ∃ j : Nat, j ≤ L ∧ i = .int .i64 j ∧ RowKit.Hid (MdRel w wx p v (.slice oa L ok) xs a2 L)) (fun i _ => L - (intOf i).toNat)
        case atStart => exact ⟨0, by omega, rfl, HM3⟩
        case round =>
          obtain ⟨j, hj, rfl, HX⟩ := hrel
          by_cases hjL : j < L
          · obtain ⟨g, x, rfl, cg, zg, hnx⟩ := HX.out.at hjL
            have HNX := hid hnx
            clear hnx
            go_wp2
            go_roundw
            case rel => exact ⟨j + 1, by omega, by go_num, hid (HNX.out _)⟩
            case measure => simp [intOf]; omega
          · obtain rfl : j = L := by omega
            have HO5 := hid HX.out.1
            have HBY2 := hid (Bytes_any _ p v xs HX.out.1.wr.wr (by rw [← HL.out]; omega))
            clear hjL
            go_wp2_with fail
            refine HBY2.out.mono ?_
            rintro e w6 ⟨v6, rfl, hrow6, hb6⟩
            rw [← HL.out] at hrow6
            obtain ⟨a6, k6, rfl⟩ := own_form hrow6
            have HO6 := hid (HO5.out.on hb6)
            have hwb : Bs w6 w6.heap.size oa xs := by
              have := HO6.out.want
              rw [← HL.out] at this
              exact own_bs this
            have HSB := hid (SameBytes_any w6 a6 oa k6 ok j j xs xs HL.out HL.out (own_bs hrow6) hwb (by omega) (by omega))
            clear hrow6 hb6 hwb HBY2
            go_wp2_with fail
            refine HSB.out.mono ?_
            rintro e w7 ⟨rfl, h7⟩
            have H7 := hid (HO6.out.wr.below.trans (h7.mono HO6.out.wr.below.size))
            rw [show (xs == xs) = true by simp]
            clear h7 HSB
            go_wp2_with fail
            refine (awake_any _).mono ?_
            rintro e w8 ⟨rfl, h8⟩
            have H8 := hid (H7.out.trans (h8.mono H7.out.size))
            clear h8
            go_wp2
            go_ret
            exact ⟨rfl, H8.out⟩
end Go.Proofs.Ytdpdibhapjgdeaa
