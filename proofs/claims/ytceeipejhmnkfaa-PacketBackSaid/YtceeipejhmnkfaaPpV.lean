/- PpU PpV in one -/
import Derived.Test.YtceeipejhmnkfaaPpT
import Derived.Test.YtceeipejhmnkfaaPpD
import Derived.Test.YtceeipejhmnkfaaWrE
import Derived.Test.YtceeipejhmnkfaaWrR
namespace Go.Proofs.Ytceeipejhmnkfaa
open Go Go.ChangeShapes Go.WideShapes Go.ChangeAt Go.RowKit

/-- What read answers. -/
def PRdP (w : World) (b : List Int) (e : Ending) (w' : World) : Prop :=
  (∃ p ad c, readP b = some p ∧ e = .returned (.tuple #[.agg (pkA p ad c), .int .i64 0]) ∧ RwO w' w'.heap.size ad p.rs ∧ (p.rs.length ≤ c ∧ c ≤ 9223372036854775807) ∧ (∀ b' o', ad = some ⟨b', o', none⟩ → w.heap.size ≤ b') ∧ Below w.heap.size w w') ∨
  (readP b = none ∧ ∃ p ad c er, er ≠ 0 ∧ e = .returned (.tuple #[.agg (pkA p ad c), .int .i64 er]) ∧ p.ip.length = 16 ∧ Below w.heap.size w w')
set_option maxRecDepth 100000 in
theorem read_ret {Q : Ending → World → Prop} {a : Act} {W : World} {g : Nat} {u : Value} {q : Pk} {ar : Option Addr} {c : Nat} (h2 : a.tmps.getD 2 undef = .pointer (some ⟨g, 0, none⟩)) (h3 : a.tmps.getD 3 undef = u) (hd : a.defers = [])
    (hg : InP W g q ar c) (h16 : q.ip.length = 16) (h : Q (.returned (.tuple #[.agg (pkA q ar c), u])) W) : bodyPost Try.prog Try.f32 Q .ret a W := by
  refine bodyPost_ret (v := .tuple #[.agg (pkA q ar c), u]) ?_ hd h
  rw [results_cell_tmp (fn := Try.f32) (p := 2) (q := 3) rfl a.tmps W g 28 (pkA q ar c) (0, 0) _ h2 hg Try.underlying28 rfl (by rw [pkA_size h16]; exact szP), h3]
theorem rdK_err {b : List Int} {a k : Nat} {f : Int → Nat → Option Pk} {r : Option Pk} (h : r = rdK b a k f) (he : (rd b a k).2.2 ≠ 0) : r = none := by rw [h, rdK, if_neg he]
theorem rdK_ok {b : List Int} {a k : Nat} {f : Int → Nat → Option Pk} {r : Option Pk} (h : r = rdK b a k f) (he : (rd b a k).2.2 = 0) : r = f (rd b a k).1 (rd b a k).2.1 := by rw [h, rdK, if_pos he]
theorem rbE_no {b : List Int} {a m : Nat} (h : ¬ a + m ≤ b.length) : rbE b a m = 6 := by rw [rbE, if_neg h]
theorem rbE_yes {b : List Int} {a m : Nat} (h : a + m ≤ b.length) : rbE b a m = 0 ∧ rbN b a m = m := by
  refine ⟨by rw [rbE, if_pos h], by unfold rbN; omega⟩
theorem rdBK_err {b : List Int} {a m : Nat} {f : List Int → Nat → Option Pk} {r : Option Pk} (h : r = rdBK b a m f) (he : ¬ a + m ≤ b.length) : r = none := by rw [h, rdBK, if_neg he]
theorem rdBK_ok {b : List Int} {a m : Nat} {f : List Int → Nat → Option Pk} {r : Option Pk} (h : r = rdBK b a m f) (he : a + m ≤ b.length) : r = f ((b.drop a).take m) (a + m) := by rw [h, rdBK, if_pos he]
theorem sg1 {b : List Int} {a : Nat} (hb : Byt b) : sg (rd b a 1).1 = (rd b a 1).1 := by
  have h : 0 ≤ (rd b a 1).1 ∧ (rd b a 1).1 ≤ 255 := by
    rcases Nat.lt_or_ge a b.length with h | h
    · rw [rd_byte h]; exact getD_byt hb a
    · rw [rd_none h]; exact ⟨Int.le_refl 0, show (0 : Int) ≤ 255 by decide⟩
  generalize (rd b a 1).1 = n at *
  unfold sg wrap64
  omega
theorem ref_tail {b : List Int} {a : Nat} {fr to sq ca me n : Int} {ip : List Int} {r : Option Pk}
    (h : r = rdK b a 8 fun l a => if l = 0 then endK b a ⟨1, fr, to, sq, ca, ip, me, n, 0, []⟩ else if l = 1 then rdBK b a 64 fun fs a => if (decO fs).2 = 0 then endK b a ⟨1, fr, to, sq, ca, ip, me, n, 0, [(decO fs).1]⟩ else none else none) :
    (refR b a = none → r = none) ∧ ∀ rs a', refR b a = some (rs, a') → r = endK b a' ⟨1, fr, to, sq, ca, ip, me, n, 0, rs⟩ := by
  subst h
  unfold refR rdK
  rw [show ((8 : Nat) : Int) = 8 from rfl]
  by_cases h1 : (rd b a 8).2.2 = 0
  · rw [if_pos h1, if_pos h1]
    by_cases h2 : (rd b a 8).1 = 0
    · rw [if_pos h2]
      simp only
      rw [if_pos h2]
      exact ⟨fun h => by (cases h), fun rs a' h => by (cases h; rfl)⟩
    · rw [if_neg h2]
      simp only
      rw [if_neg h2]
      by_cases h3 : (rd b a 8).1 = 1
      · rw [if_pos h3, if_pos h3]
        unfold rdBK
        by_cases h4 : (rd b a 8).2.1 + 64 ≤ b.length
        · rw [if_pos h4, if_pos h4]
          by_cases h5 : (decO ((b.drop (rd b a 8).2.1).take 64)).2 = 0
          · rw [if_pos h5]
            exact ⟨fun h => by (cases h), fun rs a' h => by (cases h; exact if_pos h5)⟩
          · rw [if_neg h5]
            exact ⟨fun _ => if_neg h5, fun rs a' h => by (cases h)⟩
        · rw [if_neg h4, if_neg h4]
          exact ⟨fun _ => rfl, fun rs a' h => by (cases h)⟩
      · rw [if_neg h3, if_neg h3]
        exact ⟨fun _ => rfl, fun rs a' h => by (cases h)⟩
  · rw [if_neg h1, if_neg h1]
    exact ⟨fun _ => rfl, fun rs a' h => by (cases h)⟩
theorem endK_err {b : List Int} {a : Nat} {p : Pk} {r : Option Pk} (h : r = endK b a p) (he : ¬ a = b.length) : r = none := by rw [h, endK, if_neg he]
theorem endK_ok {b : List Int} {a : Nat} {p : Pk} {r : Option Pk} (h : r = endK b a p) (he : a = b.length) : r = some p := by rw [h, endK, if_pos he]
theorem szPk {q : Pk} (h : q.ip.length = 16) (ad : Option Addr) (c : Nat) : (Try.prog.info? 28).map (·.size) = some (pkA q ad c).size := by rw [pkA_size h]; exact szP
theorem szZk {q : Pk} (h : q.ip.length = 16) (ad : Option Addr) (c : Nat) : (pkA pkZ none 0).size = (pkA q ad c).size := by rw [pkA_size h, pkA_size rfl]
theorem PSt.gc {X : Option (Nat × Obj)} {w W : World} {q z g n gr : Nat} {v : Value} {b : List Int} {p : Pk} {ad : Option Addr} {c a : Nat} {R : List Bool} (h : PSt X w q z g n v b p ad c a W) (hX : X = some (gr, .cells (bools R) 50 (0, 0))) (k : Nat) (y : Bool) (hk : R[k]? = some y) : W.cell? ⟨gr, k, none⟩ = some (.bool y) := by
  have hl : k < R.length := (List.getElem?_eq_some_iff.1 hk).1
  rw [bools_cell (h.ex gr _ hX).1 hl]
  simp [hk]
theorem PSt.hk {X : Option (Nat × Obj)} {w W : World} {q z g n : Nat} {v : Value} {b : List Int} {p : Pk} {ad : Option Addr} {c a : Nat} (h : PSt X w q z g n v b p ad c a W) (m : Nat) (hr : W.heap[m]? = some (.cells #[.pointer (some ⟨q, 0, none⟩)] 64 (0, 0))) (hg : W.heap[m + 1]? = some (.cells #[.pointer (some ⟨g, 0, none⟩)] 82 (0, 0)))
    (hm : w.heap.size ≤ m ∧ q ≠ m ∧ q ≠ m + 1 ∧ g ≠ m ∧ g ≠ m + 1 ∧ z ≠ m ∧ z ≠ m + 1) (hv : ∀ j, v.ownBlock = some j → j ≠ m ∧ j ≠ m + 1) (Y : Option (Nat × Obj)) (hY : ∀ k o, Y = some (k, o) → W.heap[k]? = some o ∧ k ≠ q ∧ k ≠ g) : PSt Y w q z g m v b p ad c a W := by
  obtain ⟨n1, n2, n3, n4, n5, n6, n7, n8, n9⟩ := h.ne
  exact ⟨h.rw_, hr, hg, h.hp, h.hz, h.b, ⟨h.lo.1, h.lo.2.1, h.lo.2.2.1, hm.1⟩, ⟨hm.2.1, hm.2.2.1, n3, n4, hm.2.2.2.1, hm.2.2.2.2.1, n7, hm.2.2.2.2.2.1, hm.2.2.2.2.2.2⟩, fun j hj => ⟨(hv j hj).1, (hv j hj).2, (h.own j hj).2.2⟩, hY⟩
set_option maxRecDepth 100000 in
theorem szE1 (w : World) : (sizeOf 79).run Try.prog w = .ok 1 w := by kernel_rfl
set_option maxRecDepth 100000 in
theorem agE1 (w : World) : (isAgg 79).run Try.prog w = .ok false w := by kernel_rfl
set_option maxRecDepth 100000 in
set_option maxHeartbeats 8000000 in
theorem pread_any (w0 w : World) (q : Nat) (v : Value) (b : List Int) (hB0 : Below w0.heap.size w0 w) (hq0 : w0.heap.size ≤ q) (h : RdW w q v 0 b) (hb : Byt b) (hl : b.length ≤ 140737488351232) :
    Calls Try.prog 32 #[.pointer (some ⟨q, 0, none⟩)] w (PRdP w0 b) := by
  obtain ⟨w1, hw1⟩ : ∃ w1, w1 = w.alloc (.cells (pkA pkZ none 0) 28) := ⟨_, rfl⟩
  have s1 : w1.heap.size = w.heap.size + 1 := by rw [hw1]; simp
  have z1 : InP w1 w.heap.size pkZ none 0 := by rw [hw1]; exact heap_alloc_new _ _
  obtain ⟨w2, hw2⟩ : ∃ w2, w2 = w1.alloc (.cells (pkA pkZ none 0) 28) := ⟨_, rfl⟩
  have z2 : InP w2 w.heap.size pkZ none 0 := by unfold InP; rw [hw2, heap_alloc_old _ _ z1.lt]; exact z1
  have g2 : InP w2 (w.heap.size + 1) pkZ none 0 := by rw [hw2, ← s1]; exact heap_alloc_new _ _
  have b2 : Below w.heap.size w w2 := by rw [hw2, hw1]; exact ((Below.refl _ _).alloc (Nat.le_refl _) _).alloc (by simp) _
  have hqw := h.lt
  have s2 : w2.heap.size = w.heap.size + 1 + 1 := by rw [hw2]; simp [s1]
  have r2 : RdW w2 q v 0 b := h.fr (Fr.of_below (fp := fun _ => False) b2) (fun h => h) (fun _ _ h => h)
  have hvw : ∀ j, v.ownBlock = some j → j < w.heap.size := fun j hj => (h.row.lt j hj).2
  have hs0 := hB0.size
  have HE0 := hid (fun (W : World) (hB : Below w2.heap.size w2 W) (hr : W.heap[w2.heap.size]? = some (.cells #[.pointer (some ⟨q, 0, none⟩)] 64 (0, 0))) (hg : W.heap[w2.heap.size + 1]? = some (.cells #[.pointer (some ⟨w.heap.size + 1, 0, none⟩)] 82 (0, 0))) =>
    (show PSt none w0 q w.heap.size (w.heap.size + 1) w2.heap.size v b pkZ none 0 0 W from
      ⟨r2.fr (Fr.of_below (fp := fun _ => False) hB) (fun h => h) (fun _ _ h => h), hr, hg, g2.below hB, z2.below hB, (hB0.trans (b2.mono hs0)).trans (hB.mono (by omega)), ⟨hq0, hs0, by omega, by omega⟩, ⟨by omega, by omega, by omega, by omega, by omega, by omega, by omega, by omega, by omega⟩,
        fun j hj => by have := hvw j hj; exact ⟨by omega, by omega, by omega, by omega⟩, fun k o hk => by cases hk⟩))
  have HW2 := hid (show w2 = (w.alloc (.cells (pkA pkZ none 0) 28)).alloc (.cells (pkA pkZ none 0) 28) by rw [hw2, hw1])
  have HB := hid hb
  have HL := hid hl
  have HRD := hid (readP.eq_1 b)
  have HLO := hid (show w0.heap.size ≤ w.heap.size from hs0)
  clear hw1 s1 z1 hw2 z2 g2 b2 hqw s2 r2 hvw hs0 hB0 hq0 h hb hl
  go_enter Try.func32, Try.ntmps32
  go_upto_region 2 with (fail)
  change Code.wp _ _ _ _ ((w.alloc (.cells (pkA pkZ none 0) 28)).alloc (.cells (pkA pkZ none 0) 28))
  rw [← HW2.out]
  go_wp2_with fail
  refine (headReaders_any q (w.heap.size + 1) w2).mono ?_
  rintro e w3 ⟨rfl, hr3, hg3, hb3⟩
  have E3 := hid (HE0.out w3 hb3 hr3 hg3)
  obtain ⟨n, hn⟩ : ∃ n, n = w2.heap.size := ⟨_, rfl⟩
  rw [← hn] at E3 ⊢
  obtain ⟨z, hz⟩ : ∃ z, z = w.heap.size := ⟨_, rfl⟩
  obtain ⟨g, hg⟩ : ∃ g, g = w.heap.size + 1 := ⟨_, rfl⟩
  rw [← hg, ← hz] at E3 ⊢
  clear hb3 hr3 hg3 HE0 HW2 hn HLO hz hg
  have hix0 : ∀ w, (Instr.index 80 (.agg (hrA n)) (.int .i64 0)).run Try.prog w = .ok (cloF 61 n) w := fun w => run_index_cs w 80 79 4 (hrA n) 0 _ Try.underlying80 szE1 agE1 (by decide) rfl
  have hix1 : ∀ w, (Instr.index 80 (.agg (hrA n)) (.int .i64 1)).run Try.prog w = .ok (cloF 63 n) w := fun w => run_index_cs w 80 79 4 (hrA n) 1 _ Try.underlying80 szE1 agE1 (by decide) rfl
  have hix2 : ∀ w, (Instr.index 80 (.agg (hrA n)) (.int .i64 2)).run Try.prog w = .ok (cloF 64 n) w := fun w => run_index_cs w 80 79 4 (hrA n) 2 _ Try.underlying80 szE1 agE1 (by decide) rfl
  have hix3 : ∀ w, (Instr.index 80 (.agg (hrA n)) (.int .i64 3)).run Try.prog w = .ok (cloF 65 n) w := fun w => run_index_cs w 80 79 4 (hrA n) 3 _ Try.underlying80 szE1 agE1 (by decide) rfl
  unfold cloF at hix0 hix1 hix2 hix3
  go_wp2_with fail
  refine wp_loop_rounds 5 ?_
  rw [rounds_succ]
  go_wp2_with fail
  refine (rh1 rfl E3.out HB.out HL.out).mono ?_
  rintro e w4 ⟨rfl, hx⟩
  rw [sg1 HB.out] at hx
  have hx : PSt none w0 q z g n v b ⟨(rd b 0 1).1, 0, 0, 0, 0, g0, 0, 0, 0, []⟩ none 0 (rd b 0 1).2.1 w4 := hx
  have HX := hid hx
  clear hx E3 hix0
  by_cases he : (rd b 0 1).2.2 = 0
  case neg =>
    have HNN := hid (rdK_err HRD.out he)
    have hd : ((rd b 0 1).2.2 != 0) = true := by simpa using he
    have HE := hid he
    clear he HRD
    generalize (rd b 0 1).2.2 = er at *
    have HSZ := hid (szPk (q := ⟨(rd b 0 1).1, 0, 0, 0, 0, g0, 0, 0, 0, []⟩) rfl none 0)
    have HSO := hid (szZk (q := ⟨(rd b 0 1).1, 0, 0, 0, 0, g0, 0, 0, 0, []⟩) rfl none 0)
    have HI6 := hid (show (⟨(rd b 0 1).1, 0, 0, 0, 0, g0, 0, 0, 0, []⟩ : Pk).ip.length = 16 from rfl)
    go_wp2_with (first | ((with_reducible refine at_op ⟨some 21, _, _, _, _, _⟩ ?_); refine wpList_runW rfl (.agg (pkA ⟨(rd b 0 1).1, 0, 0, 0, 0, g0, 0, 0, 0, []⟩ none 0)) (load_p rfl rfl HX.out.hp HI6.out) ?_) | ((with_reducible refine at_op ⟨none, .store 28 (.tmp 2) (.tmp 21), _, _, _, _⟩ ?_); refine wpList_store_row rfl 28 _ _ rfl z (pkA ⟨(rd b 0 1).1, 0, 0, 0, 0, g0, 0, 0, 0, []⟩ none 0) rfl rfl 28 (pkA pkZ none 0) HX.out.hz HSZ.out HSO.out (pkA_one _ _ _) ?_))
    refine read_ret (u := .int .i64 er) rfl rfl rfl (setRow_heap _ _ _ _ _ _ HX.out.hz) HI6.out (.inr ⟨HNN.out, ⟨(rd b 0 1).1, 0, 0, 0, 0, g0, 0, 0, 0, []⟩, none, 0, er, HE.out, rfl, HI6.out, below_setRow HX.out.b _ _ HX.out.lo.2.1⟩)
  have hrd := rdK_ok HRD.out he
  rw [he]
  clear he HRD
  generalize (rd b 0 1).1 = ki at *
  generalize (rd b 0 1).2.1 = a1 at *
  have HRD := hid hrd
  clear hrd
  have E4 := HX
  clear HX
  go_wp2_with fail
  rw [rounds_succ]
  go_wp2_with fail
  refine (rh2 rfl E4.out HB.out HL.out).mono ?_
  rintro e w5 ⟨rfl, hx⟩
  rw [sg1 HB.out] at hx
  have hx : PSt none w0 q z g n v b ⟨ki, (rd b a1 1).1, 0, 0, 0, g0, 0, 0, 0, []⟩ none 0 (rd b a1 1).2.1 w5 := hx
  have HX := hid hx
  clear hx E4 hix1
  by_cases he : (rd b a1 1).2.2 = 0
  case neg =>
    have HNN := hid (rdK_err HRD.out he)
    have hd : ((rd b a1 1).2.2 != 0) = true := by simpa using he
    have HE := hid he
    clear he HRD
    generalize (rd b a1 1).2.2 = er at *
    have HSZ := hid (szPk (q := ⟨ki, (rd b a1 1).1, 0, 0, 0, g0, 0, 0, 0, []⟩) rfl none 0)
    have HSO := hid (szZk (q := ⟨ki, (rd b a1 1).1, 0, 0, 0, g0, 0, 0, 0, []⟩) rfl none 0)
    have HI6 := hid (show (⟨ki, (rd b a1 1).1, 0, 0, 0, g0, 0, 0, 0, []⟩ : Pk).ip.length = 16 from rfl)
    go_wp2_with (first | ((with_reducible refine at_op ⟨some 21, _, _, _, _, _⟩ ?_); refine wpList_runW rfl (.agg (pkA ⟨ki, (rd b a1 1).1, 0, 0, 0, g0, 0, 0, 0, []⟩ none 0)) (load_p rfl rfl HX.out.hp HI6.out) ?_) | ((with_reducible refine at_op ⟨none, .store 28 (.tmp 2) (.tmp 21), _, _, _, _⟩ ?_); refine wpList_store_row rfl 28 _ _ rfl z (pkA ⟨ki, (rd b a1 1).1, 0, 0, 0, g0, 0, 0, 0, []⟩ none 0) rfl rfl 28 (pkA pkZ none 0) HX.out.hz HSZ.out HSO.out (pkA_one _ _ _) ?_))
    refine read_ret (u := .int .i64 er) rfl rfl rfl (setRow_heap _ _ _ _ _ _ HX.out.hz) HI6.out (.inr ⟨HNN.out, ⟨ki, (rd b a1 1).1, 0, 0, 0, g0, 0, 0, 0, []⟩, none, 0, er, HE.out, rfl, HI6.out, below_setRow HX.out.b _ _ HX.out.lo.2.1⟩)
  have hrd := rdK_ok HRD.out he
  rw [he]
  clear he HRD
  generalize (rd b a1 1).1 = fr at *
  generalize (rd b a1 1).2.1 = a2 at *
  have HRD := hid hrd
  clear hrd
  have E5 := HX
  clear HX
  go_wp2_with fail
  rw [rounds_succ]
  go_wp2_with fail
  refine (rh3 rfl E5.out HB.out HL.out).mono ?_
  rintro e w6 ⟨rfl, hx⟩
  rw [sg1 HB.out] at hx
  have hx : PSt none w0 q z g n v b ⟨ki, fr, (rd b a2 1).1, 0, 0, g0, 0, 0, 0, []⟩ none 0 (rd b a2 1).2.1 w6 := hx
  have HX := hid hx
  clear hx E5 hix2
  by_cases he : (rd b a2 1).2.2 = 0
  case neg =>
    have HNN := hid (rdK_err HRD.out he)
    have hd : ((rd b a2 1).2.2 != 0) = true := by simpa using he
    have HE := hid he
    clear he HRD
    generalize (rd b a2 1).2.2 = er at *
    have HSZ := hid (szPk (q := ⟨ki, fr, (rd b a2 1).1, 0, 0, g0, 0, 0, 0, []⟩) rfl none 0)
    have HSO := hid (szZk (q := ⟨ki, fr, (rd b a2 1).1, 0, 0, g0, 0, 0, 0, []⟩) rfl none 0)
    have HI6 := hid (show (⟨ki, fr, (rd b a2 1).1, 0, 0, g0, 0, 0, 0, []⟩ : Pk).ip.length = 16 from rfl)
    go_wp2_with (first | ((with_reducible refine at_op ⟨some 21, _, _, _, _, _⟩ ?_); refine wpList_runW rfl (.agg (pkA ⟨ki, fr, (rd b a2 1).1, 0, 0, g0, 0, 0, 0, []⟩ none 0)) (load_p rfl rfl HX.out.hp HI6.out) ?_) | ((with_reducible refine at_op ⟨none, .store 28 (.tmp 2) (.tmp 21), _, _, _, _⟩ ?_); refine wpList_store_row rfl 28 _ _ rfl z (pkA ⟨ki, fr, (rd b a2 1).1, 0, 0, g0, 0, 0, 0, []⟩ none 0) rfl rfl 28 (pkA pkZ none 0) HX.out.hz HSZ.out HSO.out (pkA_one _ _ _) ?_))
    refine read_ret (u := .int .i64 er) rfl rfl rfl (setRow_heap _ _ _ _ _ _ HX.out.hz) HI6.out (.inr ⟨HNN.out, ⟨ki, fr, (rd b a2 1).1, 0, 0, g0, 0, 0, 0, []⟩, none, 0, er, HE.out, rfl, HI6.out, below_setRow HX.out.b _ _ HX.out.lo.2.1⟩)
  have hrd := rdK_ok HRD.out he
  rw [he]
  clear he HRD
  generalize (rd b a2 1).1 = to at *
  generalize (rd b a2 1).2.1 = a3 at *
  have HRD := hid hrd
  clear hrd
  have E6 := HX
  clear HX
  go_wp2_with fail
  rw [rounds_succ]
  go_wp2_with fail
  refine (rh4 rfl E6.out HB.out HL.out).mono ?_
  rintro e w7 ⟨rfl, hx⟩
  have hx : PSt none w0 q z g n v b ⟨ki, fr, to, (rd b a3 8).1, 0, g0, 0, 0, 0, []⟩ none 0 (rd b a3 8).2.1 w7 := hx
  have HX := hid hx
  clear hx E6 hix3
  by_cases he : (rd b a3 8).2.2 = 0
  case neg =>
    have HNN := hid (rdK_err HRD.out he)
    have hd : ((rd b a3 8).2.2 != 0) = true := by simpa using he
    have HE := hid he
    clear he HRD
    generalize (rd b a3 8).2.2 = er at *
    have HSZ := hid (szPk (q := ⟨ki, fr, to, (rd b a3 8).1, 0, g0, 0, 0, 0, []⟩) rfl none 0)
    have HSO := hid (szZk (q := ⟨ki, fr, to, (rd b a3 8).1, 0, g0, 0, 0, 0, []⟩) rfl none 0)
    have HI6 := hid (show (⟨ki, fr, to, (rd b a3 8).1, 0, g0, 0, 0, 0, []⟩ : Pk).ip.length = 16 from rfl)
    go_wp2_with (first | ((with_reducible refine at_op ⟨some 21, _, _, _, _, _⟩ ?_); refine wpList_runW rfl (.agg (pkA ⟨ki, fr, to, (rd b a3 8).1, 0, g0, 0, 0, 0, []⟩ none 0)) (load_p rfl rfl HX.out.hp HI6.out) ?_) | ((with_reducible refine at_op ⟨none, .store 28 (.tmp 2) (.tmp 21), _, _, _, _⟩ ?_); refine wpList_store_row rfl 28 _ _ rfl z (pkA ⟨ki, fr, to, (rd b a3 8).1, 0, g0, 0, 0, 0, []⟩ none 0) rfl rfl 28 (pkA pkZ none 0) HX.out.hz HSZ.out HSO.out (pkA_one _ _ _) ?_))
    refine read_ret (u := .int .i64 er) rfl rfl rfl (setRow_heap _ _ _ _ _ _ HX.out.hz) HI6.out (.inr ⟨HNN.out, ⟨ki, fr, to, (rd b a3 8).1, 0, g0, 0, 0, 0, []⟩, none, 0, er, HE.out, rfl, HI6.out, below_setRow HX.out.b _ _ HX.out.lo.2.1⟩)
  have hrd := rdK_ok HRD.out he
  rw [he]
  clear he HRD
  generalize (rd b a3 8).1 = sq at *
  generalize (rd b a3 8).2.1 = a4 at *
  have HRD := hid hrd
  clear hrd
  have E7 := HX
  clear HX
  go_wp2_with fail
  rw [rounds_succ]
  have c0 : w7.cell? ⟨g, 0, none⟩ = some (.int .i64 ki) := E7.out.hp.c0
  have HRO := hid (rowOf_any ki w7)
  unfold RowP at HRO
  have HRL := hid (rowL_len ki)
  obtain ⟨R, hR⟩ : ∃ R, R = rowL ki := ⟨_, rfl⟩
  rw [← hR] at HRO HRL
  have HRR := hid hR
  clear hR
  go_wp2_with fail
  refine HRO.out.mono ?_
  rintro e w8 ⟨rfl, hb8⟩
  obtain ⟨w9, hw9⟩ : ∃ w9, w9 = w8.alloc (.cells (bools row0) 50) := ⟨_, rfl⟩
  have hn9 : w9.heap[w8.heap.size]? = some (.cells (bools row0) 50 (0, 0)) := by rw [hw9]; exact heap_alloc_new _ _
  have hb9 : Below w8.heap.size w8 w9 := by rw [hw9]; exact (Below.refl _ _).alloc (Nat.le_refl _) _
  obtain ⟨w10, hw10⟩ : ∃ w10, w10 = w9.setRow w8.heap.size (bools R) := ⟨_, rfl⟩
  have hn10 : w10.heap[w8.heap.size]? = some (.cells (bools R) 50 (0, 0)) := by rw [hw10]; exact setRow_heap _ _ _ _ _ _ hn9
  have hb10 : Below w8.heap.size w8 w10 := by rw [hw10]; exact below_setRow hb9 _ _ (Nat.le_refl _)
  have HN9 := hid hn9
  rw [hw9] at HN9
  have HN10 := hid hn10
  have HB8 := hid hb8
  have HB10 := hid hb10
  have HW10 := hid (show w10 = (w8.alloc (.cells (bools row0) 50)).setRow w8.heap.size (bools R) by rw [hw10, hw9])
  have HSR := hid (show (Try.prog.info? 50).map (·.size) = some (bools R).size by rw [bools_size, HRL.out]; exact szRow)
  have HSE := hid (show (bools row0).size = (bools R).size by rw [bools_size, bools_size, HRL.out]; rfl)
  clear hb8 hw9 hn9 hb9 hw10 hn10 hb10 c0
  go_upto_region 10 with (first | ((with_reducible refine at_op ⟨none, .store 50 (.tmp 8) (.tmp 26), _, _, _, _⟩ ?_); refine wpList_store_row rfl 50 _ _ rfl w8.heap.size (bools R) rfl rfl 50 (bools row0) HN9.out HSR.out HSE.out (bools_one _) ?_) | fail)
  change Code.wp _ _ _ _ ((w8.alloc (.cells (bools row0) 50)).setRow w8.heap.size (bools R))
  rw [← HW10.out]
  go_wp2_with fail
  refine (readers_any q g w10).mono ?_
  rintro e w11 ⟨rfl, hr11, hg11, hb11⟩
  obtain ⟨X, hX⟩ : ∃ X : Option (Nat × Obj), X = some (w8.heap.size, .cells (bools R) 50 (0, 0)) := ⟨_, rfl⟩
  have hE11 : PSt X w0 q z g w10.heap.size v b ⟨ki, fr, to, sq, 0, g0, 0, 0, 0, []⟩ none 0 a4 w11 := by
    have s8 := HB8.out.size
    have s10 := lt_of_heap HN10.out
    have k1 := E7.out.rw_.lt
    have k2 := E7.out.hp.lt
    have k3 := E7.out.hz.lt
    have k4 := E7.out.lo
    have hb78 := HB8.out.trans (HB10.out.mono HB8.out.size)
    have H := E7.out.on (hb78.trans (hb11.mono hb78.size))
    refine H.hk w10.heap.size hr11 hg11 (by omega) (fun j hj => ?_) X (fun k o hk => ?_)
    · have := (E7.out.rw_.row.lt j hj).2
      omega
    · rw [hX] at hk
      cases hk
      exact ⟨by rw [hb11.block _ s10]; exact HN10.out, by omega, by omega⟩
  have E11 := hid hE11
  have HXX := hid hX
  obtain ⟨gr, hgr⟩ : ∃ gr, gr = w8.heap.size := ⟨_, rfl⟩
  obtain ⟨m, hm⟩ : ∃ m, m = w10.heap.size := ⟨_, rfl⟩
  rw [← hgr] at HXX
  rw [← hm] at E11
  simp only [← hgr, ← hm]
  clear hr11 hg11 hb11 hX hE11 hgr hm E7 HN9 HN10 HB8 HB10 HW10 HSR HSE HRO HRL
  have hix0 : ∀ w, (Instr.index 83 (.agg (rrA m)) (.int .i64 0)).run Try.prog w = .ok (cloF 67 m) w := fun w => run_index_cs w 83 79 6 (rrA m) 0 _ Try.underlying83 szE1 agE1 (by decide) rfl
  have hix1 : ∀ w, (Instr.index 83 (.agg (rrA m)) (.int .i64 1)).run Try.prog w = .ok (cloF 68 m) w := fun w => run_index_cs w 83 79 6 (rrA m) 1 _ Try.underlying83 szE1 agE1 (by decide) rfl
  have hix2 : ∀ w, (Instr.index 83 (.agg (rrA m)) (.int .i64 2)).run Try.prog w = .ok (cloF 70 m) w := fun w => run_index_cs w 83 79 6 (rrA m) 2 _ Try.underlying83 szE1 agE1 (by decide) rfl
  have hix3 : ∀ w, (Instr.index 83 (.agg (rrA m)) (.int .i64 3)).run Try.prog w = .ok (cloF 71 m) w := fun w => run_index_cs w 83 79 6 (rrA m) 3 _ Try.underlying83 szE1 agE1 (by decide) rfl
  have hix4 : ∀ w, (Instr.index 83 (.agg (rrA m)) (.int .i64 4)).run Try.prog w = .ok (cloF 73 m) w := fun w => run_index_cs w 83 79 6 (rrA m) 4 _ Try.underlying83 szE1 agE1 (by decide) rfl
  have hix5 : ∀ w, (Instr.index 83 (.agg (rrA m)) (.int .i64 5)).run Try.prog w = .ok (cloF 75 m) w := fun w => run_index_cs w 83 79 6 (rrA m) 5 _ Try.underlying83 szE1 agE1 (by decide) rfl
  unfold cloF at hix0 hix1 hix2 hix3 hix4 hix5
  by_cases hk : ki = 1
  case pos =>
    have hR2 : R = [true, true, true, false, true, true] := by rw [HRR.out, rowL, if_pos hk]
    have hrd := HRD.out
    rw [readT, if_pos hk] at hrd
    clear HRR HRD
    subst hR2
    subst hk
    unfold read1 at hrd
    have HRD := hid hrd
    clear hrd
    have gc0 := E11.out.gc HXX.out 0 _ rfl
    have gc1 := E11.out.gc HXX.out 1 _ rfl
    have gc2 := E11.out.gc HXX.out 2 _ rfl
    have gc3 := E11.out.gc HXX.out 3 _ rfl
    have gc4 := E11.out.gc HXX.out 4 _ rfl
    have gc5 := E11.out.gc HXX.out 5 _ rfl
    go_wp2_with fail
    refine wp_loop_rounds 7 ?_
    rw [rounds_succ]
    go_wp2_with fail
    refine (rr1 rfl E11.out HB.out HL.out).mono ?_
    rintro e w12 ⟨rfl, hx⟩
    have hx : PSt X w0 q z g m v b ⟨1, fr, to, sq, (rd b a4 8).1, g0, 0, 0, 0, []⟩ none 0 (rd b a4 8).2.1 w12 := hx
    have HX := hid hx
    clear hx E11 gc0 gc1 gc2 gc3 gc4 gc5 hix0
    by_cases he : (rd b a4 8).2.2 = 0
    case neg =>
      have HNN := hid (rdK_err HRD.out he)
      have hd : ((rd b a4 8).2.2 != 0) = true := by simpa using he
      have HE := hid he
      clear he HRD
      generalize (rd b a4 8).2.2 = er at *
      have HSZ := hid (szPk (q := ⟨1, fr, to, sq, (rd b a4 8).1, g0, 0, 0, 0, []⟩) rfl none 0)
      have HSO := hid (szZk (q := ⟨1, fr, to, sq, (rd b a4 8).1, g0, 0, 0, 0, []⟩) rfl none 0)
      have HI6 := hid (show (⟨1, fr, to, sq, (rd b a4 8).1, g0, 0, 0, 0, []⟩ : Pk).ip.length = 16 from rfl)
      go_wp2_with (first | ((with_reducible refine at_op ⟨some 41, _, _, _, _, _⟩ ?_); refine wpList_runW rfl (.agg (pkA ⟨1, fr, to, sq, (rd b a4 8).1, g0, 0, 0, 0, []⟩ none 0)) (load_p rfl rfl HX.out.hp HI6.out) ?_) | ((with_reducible refine at_op ⟨none, .store 28 (.tmp 2) (.tmp 41), _, _, _, _⟩ ?_); refine wpList_store_row rfl 28 _ _ rfl z (pkA ⟨1, fr, to, sq, (rd b a4 8).1, g0, 0, 0, 0, []⟩ none 0) rfl rfl 28 (pkA pkZ none 0) HX.out.hz HSZ.out HSO.out (pkA_one _ _ _) ?_))
      refine read_ret (u := .int .i64 er) rfl rfl rfl (setRow_heap _ _ _ _ _ _ HX.out.hz) HI6.out (.inr ⟨HNN.out, ⟨1, fr, to, sq, (rd b a4 8).1, g0, 0, 0, 0, []⟩, none, 0, er, HE.out, rfl, HI6.out, below_setRow HX.out.b _ _ HX.out.lo.2.1⟩)
    have hrd := rdK_ok HRD.out he
    rw [he]
    clear he HRD
    generalize (rd b a4 8).1 = ca at *
    generalize (rd b a4 8).2.1 = a5 at *
    have HRD := hid hrd
    clear hrd
    have E12 := HX
    clear HX
    have gc1 := E12.out.gc HXX.out 1 _ rfl
    have gc2 := E12.out.gc HXX.out 2 _ rfl
    have gc3 := E12.out.gc HXX.out 3 _ rfl
    have gc4 := E12.out.gc HXX.out 4 _ rfl
    have gc5 := E12.out.gc HXX.out 5 _ rfl
    go_wp2_with fail
    rw [rounds_succ]
    go_wp2_with fail
    refine (rr2 rfl E12.out HB.out HL.out).mono ?_
    rintro e w13 ⟨rfl, hx⟩
    have hx : PSt X w0 q z g m v b ⟨1, fr, to, sq, ca, (ipN b a5), 0, 0, 0, []⟩ none 0 (a5 + rbN b a5 16) w13 := hx
    clear E12 gc1 gc2 gc3 gc4 gc5 hix1
    by_cases he : a5 + 16 ≤ b.length
    case neg =>
      have HNN := hid (rdBK_err HRD.out he)
      rw [rbE_no he]
      have HX := hid hx
      clear he HRD hx
      have HSZ := hid (szPk (q := ⟨1, fr, to, sq, ca, (ipN b a5), 0, 0, 0, []⟩) (ipN_len b a5) none 0)
      have HSO := hid (szZk (q := ⟨1, fr, to, sq, ca, (ipN b a5), 0, 0, 0, []⟩) (ipN_len b a5) none 0)
      have HI6 := hid (show (⟨1, fr, to, sq, ca, (ipN b a5), 0, 0, 0, []⟩ : Pk).ip.length = 16 from (ipN_len b a5))
      go_wp2_with (first | ((with_reducible refine at_op ⟨some 41, _, _, _, _, _⟩ ?_); refine wpList_runW rfl (.agg (pkA ⟨1, fr, to, sq, ca, (ipN b a5), 0, 0, 0, []⟩ none 0)) (load_p rfl rfl HX.out.hp HI6.out) ?_) | ((with_reducible refine at_op ⟨none, .store 28 (.tmp 2) (.tmp 41), _, _, _, _⟩ ?_); refine wpList_store_row rfl 28 _ _ rfl z (pkA ⟨1, fr, to, sq, ca, (ipN b a5), 0, 0, 0, []⟩ none 0) rfl rfl 28 (pkA pkZ none 0) HX.out.hz HSZ.out HSO.out (pkA_one _ _ _) ?_))
      refine read_ret (u := .int .i64 6) rfl rfl rfl (setRow_heap _ _ _ _ _ _ HX.out.hz) HI6.out (.inr ⟨HNN.out, ⟨1, fr, to, sq, ca, (ipN b a5), 0, 0, 0, []⟩, none, 0, 6, (by decide), rfl, HI6.out, below_setRow HX.out.b _ _ HX.out.lo.2.1⟩)
    rw [(rbE_yes he).2, ipN_all he] at hx
    rw [(rbE_yes he).1]
    have hrd := rdBK_ok HRD.out he
    have hi16 : ((b.drop a5).take 16).length = 16 := by simp; omega
    clear he HRD
    generalize (b.drop a5).take 16 = ip at *
    obtain ⟨a6, ha1⟩ : ∃ a6, a6 = a5 + 16 := ⟨_, rfl⟩
    rw [← ha1] at hx hrd
    have HRD := hid hrd
    have E13 := hid hx
    clear hx hrd ha1
    have gc2 := E13.out.gc HXX.out 2 _ rfl
    have gc3 := E13.out.gc HXX.out 3 _ rfl
    have gc4 := E13.out.gc HXX.out 4 _ rfl
    have gc5 := E13.out.gc HXX.out 5 _ rfl
    go_wp2_with fail
    rw [rounds_succ]
    go_wp2_with fail
    refine (rr3 hi16 E13.out HB.out HL.out).mono ?_
    rintro e w14 ⟨rfl, hx⟩
    rw [sg1 HB.out] at hx
    have hx : PSt X w0 q z g m v b ⟨1, fr, to, sq, ca, ip, (rd b a6 1).1, 0, 0, []⟩ none 0 (rd b a6 1).2.1 w14 := hx
    have HX := hid hx
    clear hx E13 gc2 gc3 gc4 gc5 hix2
    by_cases he : (rd b a6 1).2.2 = 0
    case neg =>
      have HNN := hid (rdK_err HRD.out he)
      have hd : ((rd b a6 1).2.2 != 0) = true := by simpa using he
      have HE := hid he
      clear he HRD
      generalize (rd b a6 1).2.2 = er at *
      have HSZ := hid (szPk (q := ⟨1, fr, to, sq, ca, ip, (rd b a6 1).1, 0, 0, []⟩) hi16 none 0)
      have HSO := hid (szZk (q := ⟨1, fr, to, sq, ca, ip, (rd b a6 1).1, 0, 0, []⟩) hi16 none 0)
      have HI6 := hid (show (⟨1, fr, to, sq, ca, ip, (rd b a6 1).1, 0, 0, []⟩ : Pk).ip.length = 16 from hi16)
      go_wp2_with (first | ((with_reducible refine at_op ⟨some 41, _, _, _, _, _⟩ ?_); refine wpList_runW rfl (.agg (pkA ⟨1, fr, to, sq, ca, ip, (rd b a6 1).1, 0, 0, []⟩ none 0)) (load_p rfl rfl HX.out.hp HI6.out) ?_) | ((with_reducible refine at_op ⟨none, .store 28 (.tmp 2) (.tmp 41), _, _, _, _⟩ ?_); refine wpList_store_row rfl 28 _ _ rfl z (pkA ⟨1, fr, to, sq, ca, ip, (rd b a6 1).1, 0, 0, []⟩ none 0) rfl rfl 28 (pkA pkZ none 0) HX.out.hz HSZ.out HSO.out (pkA_one _ _ _) ?_))
      refine read_ret (u := .int .i64 er) rfl rfl rfl (setRow_heap _ _ _ _ _ _ HX.out.hz) HI6.out (.inr ⟨HNN.out, ⟨1, fr, to, sq, ca, ip, (rd b a6 1).1, 0, 0, []⟩, none, 0, er, HE.out, rfl, HI6.out, below_setRow HX.out.b _ _ HX.out.lo.2.1⟩)
    have hrd := rdK_ok HRD.out he
    rw [he]
    clear he HRD
    generalize (rd b a6 1).1 = me at *
    generalize (rd b a6 1).2.1 = a7 at *
    have HRD := hid hrd
    clear hrd
    have E14 := HX
    clear HX
    have gc3 := E14.out.gc HXX.out 3 _ rfl
    have gc4 := E14.out.gc HXX.out 4 _ rfl
    have gc5 := E14.out.gc HXX.out 5 _ rfl
    go_wp2_with fail
    rw [rounds_succ]
    go_wp2_with fail
    rw [rounds_succ]
    go_wp2_with fail
    refine (rr5 hi16 E14.out HB.out HL.out).mono ?_
    rintro e w15 ⟨rfl, hx⟩
    have hx : PSt X w0 q z g m v b ⟨1, fr, to, sq, ca, ip, me, sg (rd b a7 8).1, 0, []⟩ none 0 (rd b a7 8).2.1 w15 := hx
    have HX := hid hx
    clear hx E14 gc3 gc4 gc5 hix3 hix4
    by_cases he : (rd b a7 8).2.2 = 0
    case neg =>
      have HNN := hid (rdK_err HRD.out he)
      have hd : ((rd b a7 8).2.2 != 0) = true := by simpa using he
      have HE := hid he
      clear he HRD
      generalize (rd b a7 8).2.2 = er at *
      have HSZ := hid (szPk (q := ⟨1, fr, to, sq, ca, ip, me, sg (rd b a7 8).1, 0, []⟩) hi16 none 0)
      have HSO := hid (szZk (q := ⟨1, fr, to, sq, ca, ip, me, sg (rd b a7 8).1, 0, []⟩) hi16 none 0)
      have HI6 := hid (show (⟨1, fr, to, sq, ca, ip, me, sg (rd b a7 8).1, 0, []⟩ : Pk).ip.length = 16 from hi16)
      go_wp2_with (first | ((with_reducible refine at_op ⟨some 41, _, _, _, _, _⟩ ?_); refine wpList_runW rfl (.agg (pkA ⟨1, fr, to, sq, ca, ip, me, sg (rd b a7 8).1, 0, []⟩ none 0)) (load_p rfl rfl HX.out.hp HI6.out) ?_) | ((with_reducible refine at_op ⟨none, .store 28 (.tmp 2) (.tmp 41), _, _, _, _⟩ ?_); refine wpList_store_row rfl 28 _ _ rfl z (pkA ⟨1, fr, to, sq, ca, ip, me, sg (rd b a7 8).1, 0, []⟩ none 0) rfl rfl 28 (pkA pkZ none 0) HX.out.hz HSZ.out HSO.out (pkA_one _ _ _) ?_))
      refine read_ret (u := .int .i64 er) rfl rfl rfl (setRow_heap _ _ _ _ _ _ HX.out.hz) HI6.out (.inr ⟨HNN.out, ⟨1, fr, to, sq, ca, ip, me, sg (rd b a7 8).1, 0, []⟩, none, 0, er, HE.out, rfl, HI6.out, below_setRow HX.out.b _ _ HX.out.lo.2.1⟩)
    have hrd := rdK_ok HRD.out he
    rw [he]
    clear he HRD
    generalize (rd b a7 8).1 = nn at *
    generalize (rd b a7 8).2.1 = a9 at *
    have HRD := hid hrd
    clear hrd
    have E15 := HX
    clear HX
    have gc5 := E15.out.gc HXX.out 5 _ rfl
    go_wp2_with fail
    rw [rounds_succ]
    go_wp2_with fail
    refine (rr6 hi16 rfl E15.out HB.out HL.out).mono ?_
    rintro e w16 ⟨rs, ad, c, a10, er, rfl, hx, hro, hcl, hok, hne, hcs⟩
    have hx : PSt X w0 q z g m v b ⟨1, fr, to, sq, ca, ip, me, sg nn, 0, rs⟩ ad c a10 w16 := hx
    have E16 := hid hx
    have HRO := hid hro
    have HCL := hid hcl
    have HNE := hid hne
    clear hx hro hcl hok hne E15 gc5 hix5
    rcases hcs with ⟨rfl, hcs⟩ | ⟨he, hcs⟩
    case inr =>
      have HNN := hid ((ref_tail HRD.out).1 hcs)
      have hd : (er != 0) = true := by simpa using he
      have HE := hid he
      clear he HRD hcs
      have HSZ := hid (szPk (q := ⟨1, fr, to, sq, ca, ip, me, sg nn, 0, rs⟩) hi16 ad c)
      have HSO := hid (szZk (q := ⟨1, fr, to, sq, ca, ip, me, sg nn, 0, rs⟩) hi16 ad c)
      have HI6 := hid (show (⟨1, fr, to, sq, ca, ip, me, sg nn, 0, rs⟩ : Pk).ip.length = 16 from hi16)
      go_wp2_with (first | ((with_reducible refine at_op ⟨some 41, _, _, _, _, _⟩ ?_); refine wpList_runW rfl (.agg (pkA ⟨1, fr, to, sq, ca, ip, me, sg nn, 0, rs⟩ ad c)) (load_p rfl rfl E16.out.hp HI6.out) ?_) | ((with_reducible refine at_op ⟨none, .store 28 (.tmp 2) (.tmp 41), _, _, _, _⟩ ?_); refine wpList_store_row rfl 28 _ _ rfl z (pkA ⟨1, fr, to, sq, ca, ip, me, sg nn, 0, rs⟩ ad c) rfl rfl 28 (pkA pkZ none 0) E16.out.hz HSZ.out HSO.out (pkA_one _ _ _) ?_))
      refine read_ret (u := .int .i64 er) rfl rfl rfl (setRow_heap _ _ _ _ _ _ E16.out.hz) HI6.out (.inr ⟨HNN.out, ⟨1, fr, to, sq, ca, ip, me, sg nn, 0, rs⟩, ad, c, er, HE.out, rfl, HI6.out, below_setRow E16.out.b _ _ E16.out.lo.2.1⟩)
    have hrd := (ref_tail HRD.out).2 rs a10 hcs
    clear HRD hcs
    have HRD := hid hrd
    clear hrd
    go_wp2_with fail
    rw [rounds_succ]
    go_upto_region 18 with (fail)
    have HED := hid (E16.out.on (Below.refl _ w16).drew)
    have HEN := hid (End_any w16.drew q a10 v b HED.out.rw_ HL.out)
    have HSZ := hid (szPk (q := ⟨1, fr, to, sq, ca, ip, me, sg nn, 0, rs⟩) hi16 ad c)
    have HSO := hid (szZk (q := ⟨1, fr, to, sq, ca, ip, me, sg nn, 0, rs⟩) hi16 ad c)
    have HI6 := hid (show (⟨1, fr, to, sq, ca, ip, me, sg nn, 0, rs⟩ : Pk).ip.length = 16 from hi16)
    refine D.wp_region_mix [1, 0, 2, 3, 0] (fun W => InP W g ⟨1, fr, to, sq, ca, ip, me, sg nn, 0, rs⟩ ad c) (by kernel_rfl) (by kernel_rfl) HED.out.hp ?_
    refine C.wpMix_read (.agg (pkA ⟨1, fr, to, sq, ca, ip, me, sg nn, 0, rs⟩ ad c)) rfl rfl (fun W h => load_p rfl rfl h HI6.out) ?_
    simp only [Act.put, List.setIfInBounds_toArray, List.set_cons_zero, List.set_cons_succ]
    refine C.wpMix_value (.pointer (some ⟨q, 0, none⟩)) rfl rfl (by intro W; go_simp) ?_
    simp only [Act.put, List.setIfInBounds_toArray, List.set_cons_zero, List.set_cons_succ]
    refine C.wpMix_call 53 #[.pointer (some ⟨q, 0, none⟩)] (by decide) rfl (by go_simp) ?_
    refine HEN.out.mono ?_
    rintro e wE ⟨rfl, hbE⟩
    have HEE := hid (HED.out.on hbE)
    have HBE := hid hbE
    refine ⟨_, rfl, fun _ => HEE.out.hp, ?_⟩
    simp only [Act.put, List.setIfInBounds_toArray, List.set_cons_zero, List.set_cons_succ]
    refine C.wpMix_skip (wE.setRow z (pkA ⟨1, fr, to, sq, ca, ip, me, sg nn, 0, rs⟩ ad c)) (by decide) rfl (exec_store_row 28 _ _ rfl z (pkA ⟨1, fr, to, sq, ca, ip, me, sg nn, 0, rs⟩ ad c) rfl rfl 28 (pkA pkZ none 0) HEE.out.hz HSZ.out HSO.out (pkA_one _ _ _)) (fun h => by cases h) ?_
    simp only [Act.put]
    refine' C.wpMix_value _ rfl rfl _ _
    rotate_left
    · intro W; go_simp; with_reducible rfl
    simp only [Act.put, List.setIfInBounds_toArray, List.set_cons_zero, List.set_cons_succ]
    refine C.wpMix_end ?_
    go_wp2
    by_cases he : a10 = b.length
    · have hec : endC a10 b.length = 0 := if_pos he
      refine read_ret (u := .int .i64 (endC a10 b.length)) rfl rfl rfl (setRow_heap _ _ _ _ _ _ HEE.out.hz) HI6.out (.inl ⟨⟨1, fr, to, sq, ca, ip, me, sg nn, 0, rs⟩, ad, c, endK_ok HRD.out he, by rw [hec], ((HRO.out.on (Below.refl _ w16).drew).on HBE.out).frn (Fr.of_setRow _ z _) (fun b1 o1 he => (HNE.out b1 o1 he).1), HCL.out, fun b1 o1 he => (HNE.out b1 o1 he).2.2.2, below_setRow HEE.out.b _ _ HEE.out.lo.2.1⟩)
    · have hec : endC a10 b.length = 5 := if_neg he
      refine read_ret (u := .int .i64 (endC a10 b.length)) rfl rfl rfl (setRow_heap _ _ _ _ _ _ HEE.out.hz) HI6.out (.inr ⟨endK_err HRD.out he, ⟨1, fr, to, sq, ca, ip, me, sg nn, 0, rs⟩, ad, c, _, by rw [hec]; decide, rfl, HI6.out, below_setRow HEE.out.b _ _ HEE.out.lo.2.1⟩)
  have hk0 := hk
  clear hk
  by_cases hk : ki = 2
  case pos =>
    have hR2 : R = [true, false, false, true, true, false] := by rw [HRR.out, rowL, if_neg (by omega), if_pos hk]
    have hrd := HRD.out
    rw [readT, if_neg (by omega), if_pos hk] at hrd
    clear HRR HRD
    subst hR2
    subst hk
    unfold read2 at hrd
    have HRD := hid hrd
    clear hrd
    have gc0 := E11.out.gc HXX.out 0 _ rfl
    have gc1 := E11.out.gc HXX.out 1 _ rfl
    have gc2 := E11.out.gc HXX.out 2 _ rfl
    have gc3 := E11.out.gc HXX.out 3 _ rfl
    have gc4 := E11.out.gc HXX.out 4 _ rfl
    have gc5 := E11.out.gc HXX.out 5 _ rfl
    go_wp2_with fail
    refine wp_loop_rounds 7 ?_
    rw [rounds_succ]
    go_wp2_with fail
    refine (rr1 rfl E11.out HB.out HL.out).mono ?_
    rintro e w12 ⟨rfl, hx⟩
    have hx : PSt X w0 q z g m v b ⟨2, fr, to, sq, (rd b a4 8).1, g0, 0, 0, 0, []⟩ none 0 (rd b a4 8).2.1 w12 := hx
    have HX := hid hx
    clear hx E11 gc0 gc1 gc2 gc3 gc4 gc5 hix0
    by_cases he : (rd b a4 8).2.2 = 0
    case neg =>
      have HNN := hid (rdK_err HRD.out he)
      have hd : ((rd b a4 8).2.2 != 0) = true := by simpa using he
      have HE := hid he
      clear he HRD
      generalize (rd b a4 8).2.2 = er at *
      have HSZ := hid (szPk (q := ⟨2, fr, to, sq, (rd b a4 8).1, g0, 0, 0, 0, []⟩) rfl none 0)
      have HSO := hid (szZk (q := ⟨2, fr, to, sq, (rd b a4 8).1, g0, 0, 0, 0, []⟩) rfl none 0)
      have HI6 := hid (show (⟨2, fr, to, sq, (rd b a4 8).1, g0, 0, 0, 0, []⟩ : Pk).ip.length = 16 from rfl)
      go_wp2_with (first | ((with_reducible refine at_op ⟨some 41, _, _, _, _, _⟩ ?_); refine wpList_runW rfl (.agg (pkA ⟨2, fr, to, sq, (rd b a4 8).1, g0, 0, 0, 0, []⟩ none 0)) (load_p rfl rfl HX.out.hp HI6.out) ?_) | ((with_reducible refine at_op ⟨none, .store 28 (.tmp 2) (.tmp 41), _, _, _, _⟩ ?_); refine wpList_store_row rfl 28 _ _ rfl z (pkA ⟨2, fr, to, sq, (rd b a4 8).1, g0, 0, 0, 0, []⟩ none 0) rfl rfl 28 (pkA pkZ none 0) HX.out.hz HSZ.out HSO.out (pkA_one _ _ _) ?_))
      refine read_ret (u := .int .i64 er) rfl rfl rfl (setRow_heap _ _ _ _ _ _ HX.out.hz) HI6.out (.inr ⟨HNN.out, ⟨2, fr, to, sq, (rd b a4 8).1, g0, 0, 0, 0, []⟩, none, 0, er, HE.out, rfl, HI6.out, below_setRow HX.out.b _ _ HX.out.lo.2.1⟩)
    have hrd := rdK_ok HRD.out he
    rw [he]
    clear he HRD
    generalize (rd b a4 8).1 = ca at *
    generalize (rd b a4 8).2.1 = a5 at *
    have HRD := hid hrd
    clear hrd
    have E12 := HX
    clear HX
    have gc1 := E12.out.gc HXX.out 1 _ rfl
    have gc2 := E12.out.gc HXX.out 2 _ rfl
    have gc3 := E12.out.gc HXX.out 3 _ rfl
    have gc4 := E12.out.gc HXX.out 4 _ rfl
    have gc5 := E12.out.gc HXX.out 5 _ rfl
    go_wp2_with fail
    rw [rounds_succ]
    go_wp2_with fail
    rw [rounds_succ]
    go_wp2_with fail
    rw [rounds_succ]
    go_wp2_with fail
    refine (rr4 rfl E12.out HB.out HL.out).mono ?_
    rintro e w13 ⟨rfl, hx⟩
    rw [sg1 HB.out] at hx
    have hx : PSt X w0 q z g m v b ⟨2, fr, to, sq, ca, g0, 0, 0, (rd b a5 1).1, []⟩ none 0 (rd b a5 1).2.1 w13 := hx
    have HX := hid hx
    clear hx E12 gc1 gc2 gc3 gc4 gc5 hix1 hix2 hix3
    by_cases he : (rd b a5 1).2.2 = 0
    case neg =>
      have HNN := hid (rdK_err HRD.out he)
      have hd : ((rd b a5 1).2.2 != 0) = true := by simpa using he
      have HE := hid he
      clear he HRD
      generalize (rd b a5 1).2.2 = er at *
      have HSZ := hid (szPk (q := ⟨2, fr, to, sq, ca, g0, 0, 0, (rd b a5 1).1, []⟩) rfl none 0)
      have HSO := hid (szZk (q := ⟨2, fr, to, sq, ca, g0, 0, 0, (rd b a5 1).1, []⟩) rfl none 0)
      have HI6 := hid (show (⟨2, fr, to, sq, ca, g0, 0, 0, (rd b a5 1).1, []⟩ : Pk).ip.length = 16 from rfl)
      go_wp2_with (first | ((with_reducible refine at_op ⟨some 41, _, _, _, _, _⟩ ?_); refine wpList_runW rfl (.agg (pkA ⟨2, fr, to, sq, ca, g0, 0, 0, (rd b a5 1).1, []⟩ none 0)) (load_p rfl rfl HX.out.hp HI6.out) ?_) | ((with_reducible refine at_op ⟨none, .store 28 (.tmp 2) (.tmp 41), _, _, _, _⟩ ?_); refine wpList_store_row rfl 28 _ _ rfl z (pkA ⟨2, fr, to, sq, ca, g0, 0, 0, (rd b a5 1).1, []⟩ none 0) rfl rfl 28 (pkA pkZ none 0) HX.out.hz HSZ.out HSO.out (pkA_one _ _ _) ?_))
      refine read_ret (u := .int .i64 er) rfl rfl rfl (setRow_heap _ _ _ _ _ _ HX.out.hz) HI6.out (.inr ⟨HNN.out, ⟨2, fr, to, sq, ca, g0, 0, 0, (rd b a5 1).1, []⟩, none, 0, er, HE.out, rfl, HI6.out, below_setRow HX.out.b _ _ HX.out.lo.2.1⟩)
    have hrd := rdK_ok HRD.out he
    rw [he]
    clear he HRD
    generalize (rd b a5 1).1 = co at *
    generalize (rd b a5 1).2.1 = a8 at *
    have HRD := hid hrd
    clear hrd
    have E13 := HX
    clear HX
    have gc4 := E13.out.gc HXX.out 4 _ rfl
    have gc5 := E13.out.gc HXX.out 5 _ rfl
    go_wp2_with fail
    rw [rounds_succ]
    go_wp2_with fail
    refine (rr5 rfl E13.out HB.out HL.out).mono ?_
    rintro e w14 ⟨rfl, hx⟩
    have hx : PSt X w0 q z g m v b ⟨2, fr, to, sq, ca, g0, 0, sg (rd b a8 8).1, co, []⟩ none 0 (rd b a8 8).2.1 w14 := hx
    have HX := hid hx
    clear hx E13 gc4 gc5 hix4
    by_cases he : (rd b a8 8).2.2 = 0
    case neg =>
      have HNN := hid (rdK_err HRD.out he)
      have hd : ((rd b a8 8).2.2 != 0) = true := by simpa using he
      have HE := hid he
      clear he HRD
      generalize (rd b a8 8).2.2 = er at *
      have HSZ := hid (szPk (q := ⟨2, fr, to, sq, ca, g0, 0, sg (rd b a8 8).1, co, []⟩) rfl none 0)
      have HSO := hid (szZk (q := ⟨2, fr, to, sq, ca, g0, 0, sg (rd b a8 8).1, co, []⟩) rfl none 0)
      have HI6 := hid (show (⟨2, fr, to, sq, ca, g0, 0, sg (rd b a8 8).1, co, []⟩ : Pk).ip.length = 16 from rfl)
      go_wp2_with (first | ((with_reducible refine at_op ⟨some 41, _, _, _, _, _⟩ ?_); refine wpList_runW rfl (.agg (pkA ⟨2, fr, to, sq, ca, g0, 0, sg (rd b a8 8).1, co, []⟩ none 0)) (load_p rfl rfl HX.out.hp HI6.out) ?_) | ((with_reducible refine at_op ⟨none, .store 28 (.tmp 2) (.tmp 41), _, _, _, _⟩ ?_); refine wpList_store_row rfl 28 _ _ rfl z (pkA ⟨2, fr, to, sq, ca, g0, 0, sg (rd b a8 8).1, co, []⟩ none 0) rfl rfl 28 (pkA pkZ none 0) HX.out.hz HSZ.out HSO.out (pkA_one _ _ _) ?_))
      refine read_ret (u := .int .i64 er) rfl rfl rfl (setRow_heap _ _ _ _ _ _ HX.out.hz) HI6.out (.inr ⟨HNN.out, ⟨2, fr, to, sq, ca, g0, 0, sg (rd b a8 8).1, co, []⟩, none, 0, er, HE.out, rfl, HI6.out, below_setRow HX.out.b _ _ HX.out.lo.2.1⟩)
    have hrd := rdK_ok HRD.out he
    rw [he]
    clear he HRD
    generalize (rd b a8 8).1 = nn at *
    generalize (rd b a8 8).2.1 = a9 at *
    have HRD := hid hrd
    clear hrd
    have E14 := HX
    clear HX
    have gc5 := E14.out.gc HXX.out 5 _ rfl
    go_wp2_with fail
    rw [rounds_succ]
    go_wp2_with fail
    rw [rounds_succ]
    go_upto_region 18 with (fail)
    have HED := hid (E14.out.on (Below.refl _ w14).drew)
    have HEN := hid (End_any w14.drew q a9 v b HED.out.rw_ HL.out)
    have HSZ := hid (szPk (q := ⟨2, fr, to, sq, ca, g0, 0, sg nn, co, []⟩) rfl none 0)
    have HSO := hid (szZk (q := ⟨2, fr, to, sq, ca, g0, 0, sg nn, co, []⟩) rfl none 0)
    have HI6 := hid (show (⟨2, fr, to, sq, ca, g0, 0, sg nn, co, []⟩ : Pk).ip.length = 16 from rfl)
    refine D.wp_region_mix [1, 0, 2, 3, 0] (fun W => InP W g ⟨2, fr, to, sq, ca, g0, 0, sg nn, co, []⟩ none 0) (by kernel_rfl) (by kernel_rfl) HED.out.hp ?_
    refine C.wpMix_read (.agg (pkA ⟨2, fr, to, sq, ca, g0, 0, sg nn, co, []⟩ none 0)) rfl rfl (fun W h => load_p rfl rfl h HI6.out) ?_
    simp only [Act.put, List.setIfInBounds_toArray, List.set_cons_zero, List.set_cons_succ]
    refine C.wpMix_value (.pointer (some ⟨q, 0, none⟩)) rfl rfl (by intro W; go_simp) ?_
    simp only [Act.put, List.setIfInBounds_toArray, List.set_cons_zero, List.set_cons_succ]
    refine C.wpMix_call 53 #[.pointer (some ⟨q, 0, none⟩)] (by decide) rfl (by go_simp) ?_
    refine HEN.out.mono ?_
    rintro e wE ⟨rfl, hbE⟩
    have HEE := hid (HED.out.on hbE)
    have HBE := hid hbE
    refine ⟨_, rfl, fun _ => HEE.out.hp, ?_⟩
    simp only [Act.put, List.setIfInBounds_toArray, List.set_cons_zero, List.set_cons_succ]
    refine C.wpMix_skip (wE.setRow z (pkA ⟨2, fr, to, sq, ca, g0, 0, sg nn, co, []⟩ none 0)) (by decide) rfl (exec_store_row 28 _ _ rfl z (pkA ⟨2, fr, to, sq, ca, g0, 0, sg nn, co, []⟩ none 0) rfl rfl 28 (pkA pkZ none 0) HEE.out.hz HSZ.out HSO.out (pkA_one _ _ _)) (fun h => by cases h) ?_
    simp only [Act.put]
    refine' C.wpMix_value _ rfl rfl _ _
    rotate_left
    · intro W; go_simp; with_reducible rfl
    simp only [Act.put, List.setIfInBounds_toArray, List.set_cons_zero, List.set_cons_succ]
    refine C.wpMix_end ?_
    go_wp2
    by_cases he : a9 = b.length
    · have hec : endC a9 b.length = 0 := if_pos he
      refine read_ret (u := .int .i64 (endC a9 b.length)) rfl rfl rfl (setRow_heap _ _ _ _ _ _ HEE.out.hz) HI6.out (.inl ⟨⟨2, fr, to, sq, ca, g0, 0, sg nn, co, []⟩, none, 0, endK_ok HRD.out he, by rw [hec], RwO.nil _ _, ⟨Nat.le_refl _, by decide⟩, fun b1 o1 he => (by cases he), below_setRow HEE.out.b _ _ HEE.out.lo.2.1⟩)
    · have hec : endC a9 b.length = 5 := if_neg he
      refine read_ret (u := .int .i64 (endC a9 b.length)) rfl rfl rfl (setRow_heap _ _ _ _ _ _ HEE.out.hz) HI6.out (.inr ⟨endK_err HRD.out he, ⟨2, fr, to, sq, ca, g0, 0, sg nn, co, []⟩, none, 0, _, by rw [hec]; decide, rfl, HI6.out, below_setRow HEE.out.b _ _ HEE.out.lo.2.1⟩)
  have hk1 := hk
  clear hk
  by_cases hk : ki = 3 ∨ ki = 4
  case pos =>
    have hR2 : R = [false, true, false, false, true, false] := by rw [HRR.out, rowL, if_neg (by omega), if_neg (by omega), if_pos hk]
    have hrd := HRD.out
    rw [readT, if_neg (by omega), if_neg (by omega), if_pos hk] at hrd
    clear HRR HRD
    subst hR2
    unfold read34 at hrd
    clear hk hk0 hk1
    have HRD := hid hrd
    clear hrd
    have gc0 := E11.out.gc HXX.out 0 _ rfl
    have gc1 := E11.out.gc HXX.out 1 _ rfl
    have gc2 := E11.out.gc HXX.out 2 _ rfl
    have gc3 := E11.out.gc HXX.out 3 _ rfl
    have gc4 := E11.out.gc HXX.out 4 _ rfl
    have gc5 := E11.out.gc HXX.out 5 _ rfl
    go_wp2_with fail
    refine wp_loop_rounds 7 ?_
    rw [rounds_succ]
    go_wp2_with fail
    rw [rounds_succ]
    go_wp2_with fail
    refine (rr2 rfl E11.out HB.out HL.out).mono ?_
    rintro e w12 ⟨rfl, hx⟩
    have hx : PSt X w0 q z g m v b ⟨ki, fr, to, sq, 0, (ipN b a4), 0, 0, 0, []⟩ none 0 (a4 + rbN b a4 16) w12 := hx
    clear E11 gc0 gc1 gc2 gc3 gc4 gc5 hix0 hix1
    by_cases he : a4 + 16 ≤ b.length
    case neg =>
      have HNN := hid (rdBK_err HRD.out he)
      rw [rbE_no he]
      have HX := hid hx
      clear he HRD hx
      have HSZ := hid (szPk (q := ⟨ki, fr, to, sq, 0, (ipN b a4), 0, 0, 0, []⟩) (ipN_len b a4) none 0)
      have HSO := hid (szZk (q := ⟨ki, fr, to, sq, 0, (ipN b a4), 0, 0, 0, []⟩) (ipN_len b a4) none 0)
      have HI6 := hid (show (⟨ki, fr, to, sq, 0, (ipN b a4), 0, 0, 0, []⟩ : Pk).ip.length = 16 from (ipN_len b a4))
      go_wp2_with (first | ((with_reducible refine at_op ⟨some 41, _, _, _, _, _⟩ ?_); refine wpList_runW rfl (.agg (pkA ⟨ki, fr, to, sq, 0, (ipN b a4), 0, 0, 0, []⟩ none 0)) (load_p rfl rfl HX.out.hp HI6.out) ?_) | ((with_reducible refine at_op ⟨none, .store 28 (.tmp 2) (.tmp 41), _, _, _, _⟩ ?_); refine wpList_store_row rfl 28 _ _ rfl z (pkA ⟨ki, fr, to, sq, 0, (ipN b a4), 0, 0, 0, []⟩ none 0) rfl rfl 28 (pkA pkZ none 0) HX.out.hz HSZ.out HSO.out (pkA_one _ _ _) ?_))
      refine read_ret (u := .int .i64 6) rfl rfl rfl (setRow_heap _ _ _ _ _ _ HX.out.hz) HI6.out (.inr ⟨HNN.out, ⟨ki, fr, to, sq, 0, (ipN b a4), 0, 0, 0, []⟩, none, 0, 6, (by decide), rfl, HI6.out, below_setRow HX.out.b _ _ HX.out.lo.2.1⟩)
    rw [(rbE_yes he).2, ipN_all he] at hx
    rw [(rbE_yes he).1]
    have hrd := rdBK_ok HRD.out he
    have hi16 : ((b.drop a4).take 16).length = 16 := by simp; omega
    clear he HRD
    generalize (b.drop a4).take 16 = ip at *
    obtain ⟨a6, ha1⟩ : ∃ a6, a6 = a4 + 16 := ⟨_, rfl⟩
    rw [← ha1] at hx hrd
    have HRD := hid hrd
    have E12 := hid hx
    clear hx hrd ha1
    have gc2 := E12.out.gc HXX.out 2 _ rfl
    have gc3 := E12.out.gc HXX.out 3 _ rfl
    have gc4 := E12.out.gc HXX.out 4 _ rfl
    have gc5 := E12.out.gc HXX.out 5 _ rfl
    go_wp2_with fail
    rw [rounds_succ]
    go_wp2_with fail
    rw [rounds_succ]
    go_wp2_with fail
    rw [rounds_succ]
    go_wp2_with fail
    refine (rr5 hi16 E12.out HB.out HL.out).mono ?_
    rintro e w13 ⟨rfl, hx⟩
    have hx : PSt X w0 q z g m v b ⟨ki, fr, to, sq, 0, ip, 0, sg (rd b a6 8).1, 0, []⟩ none 0 (rd b a6 8).2.1 w13 := hx
    have HX := hid hx
    clear hx E12 gc2 gc3 gc4 gc5 hix2 hix3 hix4
    by_cases he : (rd b a6 8).2.2 = 0
    case neg =>
      have HNN := hid (rdK_err HRD.out he)
      have hd : ((rd b a6 8).2.2 != 0) = true := by simpa using he
      have HE := hid he
      clear he HRD
      generalize (rd b a6 8).2.2 = er at *
      have HSZ := hid (szPk (q := ⟨ki, fr, to, sq, 0, ip, 0, sg (rd b a6 8).1, 0, []⟩) hi16 none 0)
      have HSO := hid (szZk (q := ⟨ki, fr, to, sq, 0, ip, 0, sg (rd b a6 8).1, 0, []⟩) hi16 none 0)
      have HI6 := hid (show (⟨ki, fr, to, sq, 0, ip, 0, sg (rd b a6 8).1, 0, []⟩ : Pk).ip.length = 16 from hi16)
      go_wp2_with (first | ((with_reducible refine at_op ⟨some 41, _, _, _, _, _⟩ ?_); refine wpList_runW rfl (.agg (pkA ⟨ki, fr, to, sq, 0, ip, 0, sg (rd b a6 8).1, 0, []⟩ none 0)) (load_p rfl rfl HX.out.hp HI6.out) ?_) | ((with_reducible refine at_op ⟨none, .store 28 (.tmp 2) (.tmp 41), _, _, _, _⟩ ?_); refine wpList_store_row rfl 28 _ _ rfl z (pkA ⟨ki, fr, to, sq, 0, ip, 0, sg (rd b a6 8).1, 0, []⟩ none 0) rfl rfl 28 (pkA pkZ none 0) HX.out.hz HSZ.out HSO.out (pkA_one _ _ _) ?_))
      refine read_ret (u := .int .i64 er) rfl rfl rfl (setRow_heap _ _ _ _ _ _ HX.out.hz) HI6.out (.inr ⟨HNN.out, ⟨ki, fr, to, sq, 0, ip, 0, sg (rd b a6 8).1, 0, []⟩, none, 0, er, HE.out, rfl, HI6.out, below_setRow HX.out.b _ _ HX.out.lo.2.1⟩)
    have hrd := rdK_ok HRD.out he
    rw [he]
    clear he HRD
    generalize (rd b a6 8).1 = nn at *
    generalize (rd b a6 8).2.1 = a9 at *
    have HRD := hid hrd
    clear hrd
    have E13 := HX
    clear HX
    have gc5 := E13.out.gc HXX.out 5 _ rfl
    go_wp2_with fail
    rw [rounds_succ]
    go_wp2_with fail
    rw [rounds_succ]
    go_upto_region 18 with (fail)
    have HED := hid (E13.out.on (Below.refl _ w13).drew)
    have HEN := hid (End_any w13.drew q a9 v b HED.out.rw_ HL.out)
    have HSZ := hid (szPk (q := ⟨ki, fr, to, sq, 0, ip, 0, sg nn, 0, []⟩) hi16 none 0)
    have HSO := hid (szZk (q := ⟨ki, fr, to, sq, 0, ip, 0, sg nn, 0, []⟩) hi16 none 0)
    have HI6 := hid (show (⟨ki, fr, to, sq, 0, ip, 0, sg nn, 0, []⟩ : Pk).ip.length = 16 from hi16)
    refine D.wp_region_mix [1, 0, 2, 3, 0] (fun W => InP W g ⟨ki, fr, to, sq, 0, ip, 0, sg nn, 0, []⟩ none 0) (by kernel_rfl) (by kernel_rfl) HED.out.hp ?_
    refine C.wpMix_read (.agg (pkA ⟨ki, fr, to, sq, 0, ip, 0, sg nn, 0, []⟩ none 0)) rfl rfl (fun W h => load_p rfl rfl h HI6.out) ?_
    simp only [Act.put, List.setIfInBounds_toArray, List.set_cons_zero, List.set_cons_succ]
    refine C.wpMix_value (.pointer (some ⟨q, 0, none⟩)) rfl rfl (by intro W; go_simp) ?_
    simp only [Act.put, List.setIfInBounds_toArray, List.set_cons_zero, List.set_cons_succ]
    refine C.wpMix_call 53 #[.pointer (some ⟨q, 0, none⟩)] (by decide) rfl (by go_simp) ?_
    refine HEN.out.mono ?_
    rintro e wE ⟨rfl, hbE⟩
    have HEE := hid (HED.out.on hbE)
    have HBE := hid hbE
    refine ⟨_, rfl, fun _ => HEE.out.hp, ?_⟩
    simp only [Act.put, List.setIfInBounds_toArray, List.set_cons_zero, List.set_cons_succ]
    refine C.wpMix_skip (wE.setRow z (pkA ⟨ki, fr, to, sq, 0, ip, 0, sg nn, 0, []⟩ none 0)) (by decide) rfl (exec_store_row 28 _ _ rfl z (pkA ⟨ki, fr, to, sq, 0, ip, 0, sg nn, 0, []⟩ none 0) rfl rfl 28 (pkA pkZ none 0) HEE.out.hz HSZ.out HSO.out (pkA_one _ _ _)) (fun h => by cases h) ?_
    simp only [Act.put]
    refine' C.wpMix_value _ rfl rfl _ _
    rotate_left
    · intro W; go_simp; with_reducible rfl
    simp only [Act.put, List.setIfInBounds_toArray, List.set_cons_zero, List.set_cons_succ]
    refine C.wpMix_end ?_
    go_wp2
    by_cases he : a9 = b.length
    · have hec : endC a9 b.length = 0 := if_pos he
      refine read_ret (u := .int .i64 (endC a9 b.length)) rfl rfl rfl (setRow_heap _ _ _ _ _ _ HEE.out.hz) HI6.out (.inl ⟨⟨ki, fr, to, sq, 0, ip, 0, sg nn, 0, []⟩, none, 0, endK_ok HRD.out he, by rw [hec], RwO.nil _ _, ⟨Nat.le_refl _, by decide⟩, fun b1 o1 he => (by cases he), below_setRow HEE.out.b _ _ HEE.out.lo.2.1⟩)
    · have hec : endC a9 b.length = 5 := if_neg he
      refine read_ret (u := .int .i64 (endC a9 b.length)) rfl rfl rfl (setRow_heap _ _ _ _ _ _ HEE.out.hz) HI6.out (.inr ⟨endK_err HRD.out he, ⟨ki, fr, to, sq, 0, ip, 0, sg nn, 0, []⟩, none, 0, _, by rw [hec]; decide, rfl, HI6.out, below_setRow HEE.out.b _ _ HEE.out.lo.2.1⟩)
  have hk2 := hk
  clear hk
  have hR2 : R = [false, false, false, false, false, false] := by rw [HRR.out, rowL, if_neg hk0, if_neg hk1, if_neg hk2]
  have hrd := HRD.out
  rw [readT, if_neg hk0, if_neg hk1, if_neg hk2] at hrd
  clear HRR HRD
  subst hR2
  clear hk0 hk1 hk2
  have HRD := hid hrd
  clear hrd
  have gc0 := E11.out.gc HXX.out 0 _ rfl
  have gc1 := E11.out.gc HXX.out 1 _ rfl
  have gc2 := E11.out.gc HXX.out 2 _ rfl
  have gc3 := E11.out.gc HXX.out 3 _ rfl
  have gc4 := E11.out.gc HXX.out 4 _ rfl
  have gc5 := E11.out.gc HXX.out 5 _ rfl
  go_wp2_with fail
  refine wp_loop_rounds 7 ?_
  rw [rounds_succ]
  go_wp2_with fail
  rw [rounds_succ]
  go_wp2_with fail
  rw [rounds_succ]
  go_wp2_with fail
  rw [rounds_succ]
  go_wp2_with fail
  rw [rounds_succ]
  go_wp2_with fail
  rw [rounds_succ]
  go_wp2_with fail
  rw [rounds_succ]
  go_upto_region 18 with (fail)
  have HED := hid (E11.out.on (Below.refl _ w11).drew)
  have HEN := hid (End_any w11.drew q a4 v b HED.out.rw_ HL.out)
  have HSZ := hid (szPk (q := ⟨ki, fr, to, sq, 0, g0, 0, 0, 0, []⟩) rfl none 0)
  have HSO := hid (szZk (q := ⟨ki, fr, to, sq, 0, g0, 0, 0, 0, []⟩) rfl none 0)
  have HI6 := hid (show (⟨ki, fr, to, sq, 0, g0, 0, 0, 0, []⟩ : Pk).ip.length = 16 from rfl)
  refine D.wp_region_mix [1, 0, 2, 3, 0] (fun W => InP W g ⟨ki, fr, to, sq, 0, g0, 0, 0, 0, []⟩ none 0) (by kernel_rfl) (by kernel_rfl) HED.out.hp ?_
  refine C.wpMix_read (.agg (pkA ⟨ki, fr, to, sq, 0, g0, 0, 0, 0, []⟩ none 0)) rfl rfl (fun W h => load_p rfl rfl h HI6.out) ?_
  simp only [Act.put, List.setIfInBounds_toArray, List.set_cons_zero, List.set_cons_succ]
  refine C.wpMix_value (.pointer (some ⟨q, 0, none⟩)) rfl rfl (by intro W; go_simp) ?_
  simp only [Act.put, List.setIfInBounds_toArray, List.set_cons_zero, List.set_cons_succ]
  refine C.wpMix_call 53 #[.pointer (some ⟨q, 0, none⟩)] (by decide) rfl (by go_simp) ?_
  refine HEN.out.mono ?_
  rintro e wE ⟨rfl, hbE⟩
  have HEE := hid (HED.out.on hbE)
  have HBE := hid hbE
  refine ⟨_, rfl, fun _ => HEE.out.hp, ?_⟩
  simp only [Act.put, List.setIfInBounds_toArray, List.set_cons_zero, List.set_cons_succ]
  refine C.wpMix_skip (wE.setRow z (pkA ⟨ki, fr, to, sq, 0, g0, 0, 0, 0, []⟩ none 0)) (by decide) rfl (exec_store_row 28 _ _ rfl z (pkA ⟨ki, fr, to, sq, 0, g0, 0, 0, 0, []⟩ none 0) rfl rfl 28 (pkA pkZ none 0) HEE.out.hz HSZ.out HSO.out (pkA_one _ _ _)) (fun h => by cases h) ?_
  simp only [Act.put]
  refine' C.wpMix_value _ rfl rfl _ _
  rotate_left
  · intro W; go_simp; with_reducible rfl
  simp only [Act.put, List.setIfInBounds_toArray, List.set_cons_zero, List.set_cons_succ]
  refine C.wpMix_end ?_
  go_wp2
  by_cases he : a4 = b.length
  · have hec : endC a4 b.length = 0 := if_pos he
    refine read_ret (u := .int .i64 (endC a4 b.length)) rfl rfl rfl (setRow_heap _ _ _ _ _ _ HEE.out.hz) HI6.out (.inl ⟨⟨ki, fr, to, sq, 0, g0, 0, 0, 0, []⟩, none, 0, endK_ok HRD.out he, by rw [hec], RwO.nil _ _, ⟨Nat.le_refl _, by decide⟩, fun b1 o1 he => (by cases he), below_setRow HEE.out.b _ _ HEE.out.lo.2.1⟩)
  · have hec : endC a4 b.length = 5 := if_neg he
    refine read_ret (u := .int .i64 (endC a4 b.length)) rfl rfl rfl (setRow_heap _ _ _ _ _ _ HEE.out.hz) HI6.out (.inr ⟨endK_err HRD.out he, ⟨ki, fr, to, sq, 0, g0, 0, 0, 0, []⟩, none, 0, _, by rw [hec]; decide, rfl, HI6.out, below_setRow HEE.out.b _ _ HEE.out.lo.2.1⟩)
end Go.Proofs.Ytceeipejhmnkfaa

namespace Go.Proofs.Ytceeipejhmnkfaa
open Go Go.ChangeShapes Go.WideShapes Go.ChangeAt Go.RowKit

def codeP (b : Bool) : Int := if b then 0 else 5
/-- What Decode answers. -/
def PDecP (w : World) (b : List Int) (e : Ending) (w' : World) : Prop :=
  ∃ ad c, e = .returned (.tuple #[.agg (pkA (decP b).1 ad c), .int .i64 (codeP (decP b).2)]) ∧ RwO w' w'.heap.size ad (decP b).1.rs ∧ ((decP b).1.rs.length ≤ c ∧ c ≤ 9223372036854775807) ∧ Below w.heap.size w w'
set_option maxRecDepth 100000 in
theorem ddec_ret {Q : Ending → World → Prop} {a : Act} {W : World} {g : Nat} {u : Value} {q : Pk} {ar : Option Addr} {c : Nat} (h2 : a.tmps.getD 2 undef = .pointer (some ⟨g, 0, none⟩)) (h3 : a.tmps.getD 3 undef = u) (hd : a.defers = [])
    (hg : InP W g q ar c) (h16 : q.ip.length = 16) (h : Q (.returned (.tuple #[.agg (pkA q ar c), u])) W) : bodyPost Try.prog Try.f14 Q .ret a W := by
  refine bodyPost_ret (v := .tuple #[.agg (pkA q ar c), u]) ?_ hd h
  rw [results_cell_tmp (fn := Try.f14) (p := 2) (q := 3) rfl a.tmps W g 28 (pkA q ar c) (0, 0) _ h2 hg Try.underlying28 rfl (by rw [pkA_size h16]; exact szP), h3]
theorem PDecP.none {w W : World} {b : List Int} (h : decP b = (pkZ, false)) (hB : Below w.heap.size w W) : PDecP w b (.returned (.tuple #[.agg (pkA pkZ none 0), .int .i64 5])) W := by
  unfold PDecP
  rw [h]
  exact ⟨Option.none, 0, rfl, RwO.nil _ _, ⟨Nat.le_refl _, by omega⟩, hB⟩
theorem PDecP.some {w W : World} {b : List Int} {q : Pk} {a : Option Addr} {c : Nat} (h : decP b = (q, true)) (hr : RwO W W.heap.size a q.rs) (hc : q.rs.length ≤ c ∧ c ≤ 9223372036854775807) (hB : Below w.heap.size w W) : PDecP w b (.returned (.tuple #[.agg (pkA q a c), .int .i64 0])) W := by
  unfold PDecP
  rw [h]
  exact ⟨a, c, rfl, hr, hc, hB⟩
set_option maxRecDepth 100000 in
set_option maxHeartbeats 2000000 in
theorem pkDecode_any (w : World) (ad : Option Addr) (cap n : Nat) (b : List Int) (hb : Bs w w.heap.size ad b) (hn : n = b.length) (hby : Byt b) (h0 : ad = none → cap = 0 ∧ n = 0) (hl : n ≤ 140737488351232) : Calls Try.prog 14 #[.slice ad n cap] w (PDecP w b) := by
  obtain ⟨w1, hw1⟩ : ∃ w1, w1 = w.alloc (.cells (pkA pkZ none 0) 28) := ⟨_, rfl⟩
  have hz : InP w1 w.heap.size pkZ none 0 := by rw [hw1]; exact heap_alloc_new _ _
  have hB : Below w.heap.size w w1 := by rw [hw1]; exact (Below.refl _ _).alloc (Nat.le_refl _) _
  have HNR := hid (NewReader_any w1 ad cap n b hn ((hb.below hB).mono (by have := hB.size; omega)) h0 hl)
  unfold NewRdPost at HNR
  have HZ := hid hz
  have HB := hid hB
  have HW1 := hid hw1
  have HBY := hid hby
  have HLL := hid (show b.length ≤ 140737488351232 by omega)
  have HD := hid (dec_read hby)
  have HSZ := hid (szPk (q := pkZ) rfl none 0)
  clear hz hB hw1 hb hn hby h0 hl
  go_enter Try.func14, Try.ntmps14
  go_upto_region 1 with (fail)
  change Code.wp _ _ _ _ (w.alloc (.cells (pkA pkZ none 0) 28))
  rw [← HW1.out]
  go_wp2_with fail
  refine HNR.out.mono ?_
  rintro e w2 ⟨q, v, rfl, h2, hb2, hq2, _⟩
  have HRD := hid (pread_any w1 w2 q v b hb2 hq2 h2 HBY.out HLL.out)
  unfold PRdP at HRD
  clear h2 hb2 hq2 HNR HW1
  go_wp2_with fail
  refine HRD.out.mono ?_
  rintro e w3 hpr
  rcases hpr with ⟨p, ar, c, hrd, rfl, hro, hcl, hlo, hb3⟩ | ⟨hrd, p, ar, c, er, her, rfl, hi16, hb3⟩
  · have hok := (read_inv HBY.out hrd).1
    have hD := HD.out
    rw [hrd] at hD
    have h16 := hok.ip.len
    obtain ⟨w4, hw4⟩ : ∃ w4, w4 = w3.alloc (.cells (pkA pkZ none 0) 28) := ⟨_, rfl⟩
    have hz4 : InP w4 w3.heap.size pkZ none 0 := by rw [hw4]; exact heap_alloc_new _ _
    have hb4 : Below w3.heap.size w3 w4 := by rw [hw4]; exact (Below.refl _ _).alloc (Nat.le_refl _) _
    obtain ⟨w5, hw5⟩ : ∃ w5, w5 = w4.setRow w3.heap.size (pkA p ar c) := ⟨_, rfl⟩
    have ho5 : InP w5 w3.heap.size p ar c := by rw [hw5]; exact setRow_heap _ _ _ _ _ _ hz4
    have hb5 : Below w3.heap.size w3 w5 := by rw [hw5]; exact below_setRow hb4 _ _ (Nat.le_refl _)
    have hs1 := HZ.out.lt
    have HZ5 := hid ((HZ.out.below hb3).below hb5)
    have HB5 := hid ((HB.out.trans (hb3.mono (Nat.le_of_lt hs1))).trans (hb5.mono (by have := hb3.size; omega)))
    have HO5 := hid ho5
    have HR5 := hid (hro.on hb5)
    have HCL := hid hcl
    have HZ4 := hid hz4
    rw [hw4] at HZ4
    have HW5 := hid (show w5 = (w3.alloc (.cells (pkA pkZ none 0) 28)).setRow w3.heap.size (pkA p ar c) by rw [hw5, hw4])
    have HSP := hid (szPk h16 ar c)
    have HSO := hid (szZk h16 ar c)
    have HCK := hid (pkCheck_any p hok ar c w5 HR5.out hcl)
    unfold ChkP at HCK
    have HE : RowKit.Hid (errP p = if rightP p then 0 else 5) := rfl
    have HDD := hid hD
    have HNE := hid (show ∀ b' o', ar = some ⟨b', o', none⟩ → b' ≠ w.heap.size from fun b' o' he => by have := hlo b' o' he; omega)
    clear hrd hlo hro hcl hb3 hok hw4 hz4 hb4 hw5 ho5 hb5 hs1 HRD HD HZ HB hD
    go_upto_region 2 with (first | ((with_reducible refine at_op ⟨none, .store 28 (.tmp 4) (.tmp 10), _, _, _, _⟩ ?_); refine wpList_store_row rfl 28 _ _ rfl w3.heap.size (pkA p ar c) rfl rfl 28 (pkA pkZ none 0) HZ4.out HSP.out HSO.out (pkA_one _ _ _) ?_) | fail)
    change Code.wp _ _ _ _ ((w3.alloc (.cells (pkA pkZ none 0) 28)).setRow w3.heap.size (pkA p ar c))
    rw [← HW5.out]
    go_wp2_with (first | ((with_reducible refine at_op ⟨some 15, _, _, _, _, _⟩ ?_); refine wpList_runW rfl (.agg (pkA p ar c)) (load_p rfl rfl HO5.out h16) ?_) | fail)
    refine HCK.out.mono ?_
    rintro e w6 ⟨rfl, hb6⟩
    have HZ6 := hid (HZ5.out.below hb6)
    have HO6 := hid (HO5.out.below hb6)
    have HR6 := hid (HR5.out.on hb6)
    have HB6 := hid (below_on HB5.out hb6)
    clear hb6 HCK HZ5 HO5 HR5 HB5 HW5 HZ4
    cases hr : rightP p with
    | true =>
      rw [hr] at HE HDD
      have he : errP p = 0 := HE.out
      rw [he]
      have HD2 : RowKit.Hid (decP b = (p, true)) := hid (by rw [HDD.out]; rfl)
      clear hr he HE HDD
      go_wp2_with (first
        | ((with_reducible refine at_op ⟨some 20, _, _, _, _, _⟩ ?_); refine wpList_runW rfl (.agg (pkA p ar c)) (load_p rfl rfl HO6.out h16) ?_)
        | ((with_reducible refine at_op ⟨none, .store 28 (.tmp 2) (.tmp 20), _, _, _, _⟩ ?_); refine wpList_store_row rfl 28 _ _ rfl w.heap.size (pkA p ar c) rfl rfl 28 (pkA pkZ none 0) HZ6.out HSP.out HSO.out (pkA_one _ _ _) ?_))
      refine ddec_ret (u := .int .i64 0) rfl rfl rfl (setRow_heap _ _ _ _ _ _ HZ6.out) h16 (PDecP.some HD2.out (HR6.out.frn (Fr.of_setRow _ w.heap.size _) HNE.out) HCL.out (below_setRow HB6.out _ _ (Nat.le_refl _)))
    | false =>
      rw [hr] at HE HDD
      have he : errP p = 5 := HE.out
      rw [he]
      have HD2 : RowKit.Hid (decP b = (pkZ, false)) := hid (by rw [HDD.out]; rfl)
      clear hr he HE HDD
      go_wp2_with (first
        | ((with_reducible refine at_op ⟨none, .store 28 (.tmp 2) (.tmp 19), _, _, _, _⟩ ?_); refine wpList_store_row rfl 28 _ _ rfl w.heap.size (pkA pkZ none 0) rfl rfl 28 (pkA pkZ none 0) HZ6.out HSZ.out rfl (pkA_one _ _ _) ?_))
      refine ddec_ret (u := .int .i64 5) rfl rfl rfl (setRow_heap _ _ _ _ _ _ HZ6.out) rfl (PDecP.none HD2.out (below_setRow HB6.out _ _ (Nat.le_refl _)))
  · have hD := HD.out
    rw [hrd] at hD
    have HD2 : RowKit.Hid (decP b = (pkZ, false)) := hid hD
    have hd : (er != 0) = true := by simpa using her
    obtain ⟨w4, hw4⟩ : ∃ w4, w4 = w3.alloc (.cells (pkA pkZ none 0) 28) := ⟨_, rfl⟩
    have hz4 : InP w4 w3.heap.size pkZ none 0 := by rw [hw4]; exact heap_alloc_new _ _
    have hb4 : Below w3.heap.size w3 w4 := by rw [hw4]; exact (Below.refl _ _).alloc (Nat.le_refl _) _
    obtain ⟨w5, hw5⟩ : ∃ w5, w5 = w4.setRow w3.heap.size (pkA p ar c) := ⟨_, rfl⟩
    have hb5 : Below w3.heap.size w3 w5 := by rw [hw5]; exact below_setRow hb4 _ _ (Nat.le_refl _)
    have hs1 := HZ.out.lt
    have HZ5 := hid ((HZ.out.below hb3).below hb5)
    have HB5 := hid ((HB.out.trans (hb3.mono (Nat.le_of_lt hs1))).trans (hb5.mono (by have := hb3.size; omega)))
    have HZ4 := hid hz4
    rw [hw4] at HZ4
    have HW5 := hid (show w5 = (w3.alloc (.cells (pkA pkZ none 0) 28)).setRow w3.heap.size (pkA p ar c) by rw [hw5, hw4])
    have HSP := hid (szPk hi16 ar c)
    have HSO := hid (szZk hi16 ar c)
    clear hrd hb3 hw4 hz4 hb4 hw5 hb5 hs1 HRD HD HZ HB hD her
    go_upto_region 2 with (first | ((with_reducible refine at_op ⟨none, .store 28 (.tmp 4) (.tmp 10), _, _, _, _⟩ ?_); refine wpList_store_row rfl 28 _ _ rfl w3.heap.size (pkA p ar c) rfl rfl 28 (pkA pkZ none 0) HZ4.out HSP.out HSO.out (pkA_one _ _ _) ?_) | fail)
    change Code.wp _ _ _ _ ((w3.alloc (.cells (pkA pkZ none 0) 28)).setRow w3.heap.size (pkA p ar c))
    rw [← HW5.out]
    go_wp2_with (first
      | ((with_reducible refine at_op ⟨none, .store 28 (.tmp 2) (.tmp 19), _, _, _, _⟩ ?_); refine wpList_store_row rfl 28 _ _ rfl w.heap.size (pkA pkZ none 0) rfl rfl 28 (pkA pkZ none 0) HZ5.out HSZ.out rfl (pkA_one _ _ _) ?_))
    refine ddec_ret (u := .int .i64 5) rfl rfl rfl (setRow_heap _ _ _ _ _ _ HZ5.out) rfl (PDecP.none HD2.out (below_setRow HB5.out _ _ (Nat.le_refl _)))
end Go.Proofs.Ytceeipejhmnkfaa
