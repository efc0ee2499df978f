/- HrJ HrK in one -/
import Derived.Test.YtmampaglemleoaaHrI
namespace Go.Proofs.Ytmampaglemleoaa
open Go Go.ChangeShapes Go.WideShapes Go.ChangeAt Go.RowKit

section
variable {w w' : World} {p pa : Nat} {Sa : Nat → Prop} {A A' : Ar} {F : Nat → Lab} {B : Int → Nat} {top : Int} {L : HL} {lv : Value}
set_option maxRecDepth 100000 in
set_option maxHeartbeats 4000000 in
theorem RMake_in (h : RhW w p pa Sa A F B top L lv) (hnd : Nd L) {o : Ob} (ho : o ∈ L) (hoo : o.outer = 0) (hil : o.inners.length ≤ 65536) (hz : ∀ o ∈ L, 1 ≤ o.h) (hl : L.length ≤ 65536) {n : Nat} (hn8 : n ≤ 8) {i g : Nat} (hp : Put A 0 i g A') (hne : ∀ o ∈ L, o.h ≠ hand i g) (h1 : 1 ≤ hand i g) :
    Calls Try.prog 37 #[.pointer (some ⟨p, 0, none⟩), .int .i64 n, .int .u64 o.h] w (MkP w p pa F top (addIn L o.h (hand i g) ++ [newOb (hand i g) o.h n]) A' (hand i g)) := by
  have HFI := hid (RFind_some h (by omega) (fnd_mem hnd ho))
  obtain ⟨sv0, iv0, hb0⟩ := h.ob o ho
  have co1 := hb0.c1
  rw [hoo] at co1
  have hoz := hz o ho
  have d3 : (o.h != 0) = true := by simp; omega
  obtain ⟨oh, hoh⟩ : ∃ x, x = o.h := ⟨_, rfl⟩
  rw [← hoh] at HFI co1 hoz d3 ⊢
  have HOH := hid hoh
  have HO := hid ho
  have HND := hid hnd
  have HIL := hid hil
  have HOZ := hid hoz
  clear hb0 hoo hoh ho hnd hil hoz
  have HP := hid (RPut_some h.ar hp)
  have c1p := h.c1
  have d0 : decide ((n : Int) < 0) = false := by simp
  have d1 : decide (8 < (n : Int)) = false := by simp; omega
  obtain ⟨hd, hhd⟩ : ∃ hd, hd = hand i g := ⟨_, rfl⟩
  rw [← hhd] at HP hne h1 ⊢
  have d2 : (hd == 0) = false := by simp; omega
  obtain ⟨i0, hi, hz0, hz1, hz2⟩ := info_parts infoOp
  have hi' := hid hi
  have hz0' := hid hz0
  have hz1' := hid hz1
  have hz2' := hid hz2
  obtain ⟨j0, hj, hy0, hy1, hy2⟩ := info_parts infoLkB
  have hj' := hid hj
  have hy0' := hid hy0
  have hy1' := hid hy1
  have hy2' := hid hy2
  have HH := hid h
  have HZ := hid hz
  have HNE := hid hne
  have H1 := hid h1
  clear hi hz0 hz1 hz2 hj hy0 hy1 hy2 hz hne h1 hp hhd h
  go_enter Try.func37, Try.ntmps37
  go_upto_region 13 with (first | (go_at_call 43; refine HFI.out.mono ?_; rintro e w0 ⟨rfl, rfl⟩) | (go_at_call 58; refine HP.out.mono ?_; rintro e w1 ⟨rfl, ha1, hf1⟩))
  clear co1
  have h1 := HH.out.arena HZ.out ha1 hf1 (fun k hk => by
    rcases hk with e | e
    · exact .inl e
    · exact .inr e.1)
  have hfl : FrF F w w1 := hf1.mono (fun k hk _ => by rw [HH.out.fa k hk]; simp [outL])
  have hsz1 := hf1.size
  obtain ⟨a, k, hv⟩ := h1.shape
  have cp2 := h1.c2
  have zp2 := h1.fz 2
  have hpl := h1.lt
  have hlr := h1.lr
  have hnp : lv.ownBlock ≠ some p := fun e => by have := h1.fl _ e; rw [h1.fp] at this; cases this
  rw [hv] at cp2 hlr hnp
  obtain ⟨m, hm⟩ : ∃ m, m = L.length := ⟨_, rfl⟩
  rw [← hm] at cp2 hlr hnp hl
  have HM := hid hm
  have HV := hid hv
  have HR1 := hid h1
  have HLR := hid hlr
  have HFL := hid hfl
  clear ha1 hf1 h1 hv hlr hfl c1p hm
  refine D.wp_region_mix [0, 0, 0, 0, 1, 0, 0, 0, 2, 0, 2, 2, 2, 0, 0, 3] (fun W => W.cell? ⟨p, 2, none⟩ = some (.slice a m k)) (by kernel_rfl) (by kernel_rfl) (by simpa using cp2) ?_
  obtain ⟨w2, hw2⟩ : ∃ w2, w2 = w1.drew := ⟨_, rfl⟩
  rw [← hw2]
  repeat (first
    | (refine' C.wpMix_value _ rfl rfl _ _; rotate_left; (solve | (intro W; go_simp) | (intro W; go_simp; with_reducible rfl)); simp only [Act.put, List.setIfInBounds_toArray, List.set_cons_zero, List.set_cons_succ])
    | (refine' C.wpMix_read _ rfl rfl _ _; rotate_left; (solve | (rintro W h1; go_simp) | (rintro W h1; go_simp; with_reducible rfl)); simp only [Act.put, List.setIfInBounds_toArray, List.set_cons_zero, List.set_cons_succ]))
  have hmk := run_make (P := Try.prog) w2 77 TLk j0 _ Try.underlying77 hj'.out hy0'.out .i64 .i64 (n : Int) (n : Int) (by omega) (Int.le_refl _) (by rw [hy2'.out]; omega) (by omega)
  simp only [Int.toNat_natCast, hy1'.out] at hmk
  obtain ⟨w3, hw3⟩ : ∃ w3, w3 = w2.alloc (.cells (madeCells (Value.agg #[.int .i64 0, .int .u64 0]).cells (n * 2)) TLk) := ⟨_, rfl⟩
  rw [← hw3] at hmk
  have HMK := hid hmk
  have hpl2 : p < w2.heap.size := by rw [hw2]; exact hpl
  have cp2' : w2.cell? ⟨p, 2, none⟩ = some (.slice a m k) := by rw [hw2]; exact cp2
  have hb23 : Below w2.heap.size w2 w3 := by rw [hw3]; exact (Below.refl _ _).alloc (Nat.le_refl _) _
  have cp3 : w3.cell? ⟨p, 2, none⟩ = some (.slice a m k) := by rw [World.cell?_of_block (hb23.block p hpl2)]; exact cp2'
  obtain ⟨sb, hsb⟩ : ∃ b, b = w2.heap.size := ⟨_, rfl⟩
  have HS3 := hid (show w3.heap.size = sb + 1 by rw [hw3, hsb]; simp)
  have CP3 := hid cp3
  clear hmk cp3
  refine C.wpMix_write (.slice (some ⟨sb, 0, none⟩) n n) w3 (by decide) rfl ?nrun1 ?nS1 ?nrest1
  case nrun1 =>
    have hmk := HMK.out
    rw [← hsb] at hmk
    unfold execOp
    simp [Act.eval, hmk]
  case nS1 => exact fun _ => CP3.out
  simp only [Act.put, List.setIfInBounds_toArray, List.set_cons_zero, List.set_cons_succ]
  repeat (first
    | (refine' C.wpMix_value _ rfl rfl _ _; rotate_left; (solve | (intro W; go_simp) | (intro W; go_simp; with_reducible rfl)); simp only [Act.put, List.setIfInBounds_toArray, List.set_cons_zero, List.set_cons_succ])
    | (refine' C.wpMix_read _ rfl rfl _ _; rotate_left; (solve | (rintro W h1; go_simp) | (rintro W h1; go_simp; with_reducible rfl)); simp only [Act.put, List.setIfInBounds_toArray, List.set_cons_zero, List.set_cons_succ]))
  obtain ⟨w4, hw4⟩ : ∃ w4, w4 = w3.alloc (.cells #[.int .u64 hd, .int .u64 oh, .int .u32 1, .int .i64 0, .slice (some ⟨sb, 0, none⟩) n n, .slice none 0 0] 101) := ⟨_, rfl⟩
  obtain ⟨ob, hob⟩ : ∃ b, b = w3.heap.size := ⟨_, rfl⟩
  have hb34 : Below w3.heap.size w3 w4 := by rw [hw4]; exact (Below.refl _ _).alloc (Nat.le_refl _) _
  have hpl3 : p < w3.heap.size := Nat.lt_of_lt_of_le hpl2 hb23.size
  have CP4 := hid (show w4.cell? ⟨p, 2, none⟩ = some (.slice a m k) by rw [World.cell?_of_block (hb34.block p hpl3)]; exact CP3.out)
  have HW4 := hid hw4
  refine C.wpMix_write (.pointer (some ⟨ob, 0, none⟩)) w4 (by decide) rfl ?nrun2 ?nS2 ?nrest2
  case nrun2 =>
    rw [HW4.out, hob]
    go_simp
  case nS2 => exact fun _ => CP4.out
  simp only [Act.put, List.setIfInBounds_toArray, List.set_cons_zero, List.set_cons_succ]
  repeat (first
    | (refine' C.wpMix_value _ rfl rfl _ _; rotate_left; (solve | (intro W; go_simp) | (intro W; go_simp; with_reducible rfl)); simp only [Act.put, List.setIfInBounds_toArray, List.set_cons_zero, List.set_cons_succ])
    | (refine' C.wpMix_read _ rfl rfl _ _; rotate_left; (solve | (rintro W h1; go_simp) | (rintro W h1; go_simp; with_reducible rfl)); simp only [Act.put, List.setIfInBounds_toArray, List.set_cons_zero, List.set_cons_succ]))
  obtain ⟨w5, hw5⟩ : ∃ w5, w5 = w4.alloc (.cells #[.pointer (some ⟨ob, 0, none⟩)] TOp) := ⟨_, rfl⟩
  have hb45 : Below w4.heap.size w4 w5 := by rw [hw5]; exact (Below.refl _ _).alloc (Nat.le_refl _) _
  have hpl4 : p < w4.heap.size := Nat.lt_of_lt_of_le hpl3 hb34.size
  have CP5 := hid (show w5.cell? ⟨p, 2, none⟩ = some (.slice a m k) by rw [World.cell?_of_block (hb45.block p hpl4)]; exact CP4.out)
  have HW5 := hid hw5
  refine C.wpMix_write (.slice (some ⟨w4.heap.size, 0, none⟩) 1 1) w5 (by decide) rfl ?nrun3 ?nS3 ?nrest3
  case nrun3 =>
    rw [HW5.out]
    go_simp
  case nS3 => exact fun _ => CP5.out
  simp only [Act.put, List.setIfInBounds_toArray, List.set_cons_zero, List.set_cons_succ]
  have hb15 : Below w1.heap.size w1 w5 := by
    have h2 : Below w1.heap.size w1 w2 := by rw [hw2]; exact (Below.refl _ _).drew
    exact ((h2.trans (hb23.mono h2.size)).trans (hb34.mono (Nat.le_trans h2.size hb23.size))).trans (hb45.mono (Nat.le_trans (Nat.le_trans h2.size hb23.size) hb34.size))
  have hs21 : w2.heap.size = w1.heap.size := by rw [hw2]; rfl
  have hrow5 : w5.ownsRow 0 TOp 1 (.slice a m k) m (opv B L) := by
    have h9 := (Fr.of_below (fp := fun _ => False) hb15).owns HLR.out (fun _ _ e => e)
    exact h9
  have hnews : w5.heap[w4.heap.size]? = some (.cells #[.pointer (some ⟨ob, 0, none⟩)] TOp (0, 0)) := by rw [hw5]; exact heap_alloc_new _ _
  have hobj5 : w5.heap[ob]? = some (.cells #[.int .u64 hd, .int .u64 oh, .int .u32 1, .int .i64 0, .slice (some ⟨sb, 0, none⟩) n n, .slice none 0 0] 101 (0, 0)) := by
    rw [hob, hb45.block _ (by rw [hw4]; simp), hw4]
    exact heap_alloc_new _ _
  have hsl5 : w5.ownsRow 0 TLk 2 (.slice (some ⟨sb, 0, none⟩) n n) n (lkv (List.replicate n ⟨0, 0⟩)) := by
    have h9 : w3.ownsRow 0 TLk 2 (.slice (some ⟨sb, 0, none⟩) n n) n (lkv (List.replicate n ⟨0, 0⟩)) := by
      have h7 := World.ownsRow_lit (base := 0) (e := TLk) (size := 2) w2 (madeCells (Value.agg #[.int .i64 0, .int .u64 0]).cells (n * 2)) n (Nat.zero_le _) (by unfold maxLen; omega) (size_madeCells _ _)
      rw [made_lkv] at h7
      rw [hsb, hw3]
      exact h7
    exact (Fr.of_below (fp := fun _ => False) (hb34.trans (hb45.mono hb34.size))).owns h9 (fun _ _ e => e)
  have hz5 : w5.heap.size = w4.heap.size + 1 := by rw [hw5]; simp
  have hz4 : w4.heap.size = ob + 1 := by rw [hw4, hob]; simp
  have hz3 : ob = sb + 1 := by rw [hob]; exact HS3.out
  have HB15 := hid hb15
  have HR5 := hid hrow5
  have HNEWS := hid hnews
  have HOBJ := hid hobj5
  have HSL := hid hsl5
  have HZ5 := hid hz5
  have HZ4 := hid hz4
  have HZ3 := hid hz3
  have HSB := hid (hsb.trans hs21)
  have HPL1 := hid hpl
  have hpl5 : p < w5.heap.size := by omega
  have hlm : m ≤ 65536 := hl
  clear hb15 hrow5 hnews hobj5 hsl5 hz5 hz4 hz3 hs21 hw5 hw4 hw3 hob hsb hb45 hb34 hb23 hw2 cp2 cp2' hpl2 hpl3 hpl4 HW4 HW5 CP3 CP4 HMK HS3
  obtain ⟨v6, w6, q1, hown6, hgrow6, _, hat6⟩ := run_append_own_at (P := Try.prog) w5 0 51 51 TOp i0 _ 1 8 Try.underlying51 hi'.out hz0'.out hz1'.out hz2'.out rfl (by decide) (.slice a m k) m (opv B L) HR5.out ⟨w4.heap.size, 0, none⟩ 1 1 [.pointer (some ⟨ob, 0, none⟩)] rfl (World.news_of_block HNEWS.out) (by simp [Value.oneCell']) (by unfold maxLen; omega) (by omega) (Nat.zero_le _)
  obtain ⟨g6, k6, rfl, _⟩ := hown6.form (by omega)
  have hb6 : w6.heap[p]? = w5.heap[p]? := hgrow6.block p hpl5 (fun e => hnp e.symm)
  have cp6 : w6.cell? ⟨p, 2, none⟩ = some (.slice a m k) := (World.cell?_of_block hb6).trans CP5.out
  have zp6 : w6.frozen? ⟨p, 2, none⟩ = false := by rw [World.frozen?_of_block hb6, World.frozen?_of_block (HB15.out.block p HPL1.out)]; exact zp2
  have Q1 := hid q1
  refine C.wpMix_write (.slice (some ⟨g6, 0, none⟩) (m + 1) k6) w6 (by decide) rfl ?nrun5 ?nS5 ?nrest5
  case nrun5 =>
    have q1 := Q1.out
    unfold execOp
    simp only [resolve, invoke, builtin, Sem.run_bind, Sem.run_pure, Result.andThen_ok, List.map_toArray, List.map_cons, List.map_nil]
    simp [Act.eval, q1]
  case nS5 => exact fun _ => cp6
  clear q1
  have HO6 := hid hown6
  have HG6 := hid hgrow6
  have HA6 := hid hat6
  have HB6 := hid hb6
  clear hown6 hgrow6 hat6 hb6
  simp only [Act.put, List.setIfInBounds_toArray, List.set_cons_zero, List.set_cons_succ]
  repeat (first
    | (refine' C.wpMix_value _ rfl rfl _ _; rotate_left; (solve | (intro W; go_simp) | (intro W; go_simp; with_reducible rfl)); simp only [Act.put, List.setIfInBounds_toArray, List.set_cons_zero, List.set_cons_succ]))
  refine C.wpMix_skip (w6.setCell ⟨p, 2, none⟩ (.slice (some ⟨g6, 0, none⟩) (m + 1) k6)) (by decide) rfl ?nrun4 (fun h => by cases h) ?nrest4
  case nrun4 => go_simp
  simp only [Act.put]
  refine C.wpMix_end ?_
  have hr1 := HR1.out
  have hlv := HV.out
  subst hlv
  have hs1 := HSB.out
  have hs3 := HZ3.out
  have hs4 := HZ4.out
  have hs5 := HZ5.out
  have hfr : Fr (fun q => q = p ∨ (Value.slice a L.length k).ownBlock = some q) w1 (w6.setCell ⟨p, 2, none⟩ (.slice (some ⟨g6, 0, none⟩) (m + 1) k6)) :=
    ((Fr.of_below HB15.out).grown HG6.out (fun q hq _ => .inr (by rw [← HM.out]; exact hq))).setCell _ _ (fun _ => .inl rfl)
  have hne6 : ∀ q, (Value.slice a m k).ownBlock = some q → q < w1.heap.size := fun q hq => (hr1.lr.lt q (by rw [← HM.out]; exact hq)).2
  have hat : ∀ q, (Value.slice (some ⟨g6, 0, none⟩) (m + 1) k6).ownBlock = some q → (Value.slice a m k).ownBlock = some q ∨ q = w4.heap.size + 1 := fun q hq => by
    rcases HA6.out with e | e
    · left; rw [← e]; exact hq
    · right
      rw [hq] at e
      simp only [Option.some.injEq] at e
      omega
  have hg6p : (Value.slice (some ⟨g6, 0, none⟩) (m + 1) k6).ownBlock ≠ some p := fun e => by
    rcases hat p e with e2 | e2
    · exact hnp e2
    · omega
  have keep : ∀ b, b < w5.heap.size → b ≠ p → w1.heap.size ≤ b → (w6.setCell ⟨p, 2, none⟩ (.slice (some ⟨g6, 0, none⟩) (m + 1) k6)).heap[b]? = w5.heap[b]? := fun b h1 h2 h3 => by
    rw [Below.heap_setCell _ _ _ _ h2]
    exact HG6.out.block b h1 (fun e => by have := hne6 b e.symm; omega)
  have hfin := hr1.add HZ.out (hd := hd) (outer := oh) (n := n) (sb := sb) (ob := ob) (lv' := .slice (some ⟨g6, 0, none⟩) (m + 1) k6) HNE.out hfr
    (by
      have h9 : w6.heap[p]? = some (.cells #[.int .u32 top, .pointer (some ⟨pa, 0, none⟩), .slice a L.length k] 53 (0, 0)) := by rw [HB6.out, HB15.out.block p HPL1.out]; exact hr1.hp
      rw [heap_setCell_same _ _ _ _ _ _ h9]; rfl) (by omega) (by omega) (by omega)
    (by rw [keep ob (by omega) (by omega) (by omega)]; exact HOBJ.out)
    (by
      refine ownsRow_setCell_other ?_ (by simp [Value.ownBlock]; omega) _
      exact (Fr.grown (fp := fun q => (Value.slice a m k).ownBlock = some q) (Fr.refl _ _) HG6.out (fun q hq _ => hq)).owns HSL.out (fun q hq e => by
        simp [Value.ownBlock] at hq
        subst hq
        have := hne6 _ e
        omega))
    (by rw [← HM.out]; exact ownsRow_setCell_other HO6.out hg6p _)
    (fun q hq => by
      rcases hat q hq with e | e
      · left; rw [← HM.out]; exact e
      · right; omega)
  have hag : ∀ q, q < w.heap.size → adF (nw F w.heap.size (0, 0)) w1.heap.size sb ob hd q = F q := fun q hq => by
    unfold adF
    rw [if_pos (by omega), nw_lt hq]
  have hff : FrF F w (w6.setCell ⟨p, 2, none⟩ (.slice (some ⟨g6, 0, none⟩) (m + 1) k6)) := FrF.trans HFL.out (F1 := nw F w.heap.size (0, 0)) (hfr.mono (fun q hq hlt => by
    rcases hq with rfl | hq
    · rw [hr1.fp]; simp [outL]
    · rw [hr1.fl q hq]; simp [outL])) (fun q hq => nw_lt hq)
  obtain ⟨w7, hw7⟩ : ∃ w7, w7 = w6.setCell ⟨p, 2, none⟩ (.slice (some ⟨g6, 0, none⟩) (m + 1) k6) := ⟨_, rfl⟩
  obtain ⟨F7, hF7⟩ : ∃ X, X = adF (nw F w.heap.size (0, 0)) w1.heap.size sb ob hd := ⟨_, rfl⟩
  obtain ⟨B7, hB7⟩ : ∃ X : Int → Nat, X = fun x => if x = hd then ob else B x := ⟨_, rfl⟩
  rw [← hw7] at hfin hff ⊢
  rw [← hF7] at hfin hag
  rw [← hB7] at hfin
  have hom : o ∈ L ++ [newOb hd oh n] := List.mem_append_left _ HO.out
  have hohd : oh ≠ hd := by rw [HOH.out]; exact HNE.out o HO.out
  have hB7o : B7 o.h = B oh := by rw [hB7, ← HOH.out]; exact if_neg hohd
  obtain ⟨sv, iv, hb7⟩ := hfin.ob o hom
  rw [hB7o] at hb7
  have c5 := hb7.c5
  have z5 := hb7.fz 5
  have hri := hb7.hi
  have hblt := hb7.lt
  have hnb : iv.ownBlock ≠ some (B oh) := fun e => by have := hb7.fi _ e; rw [hb7.fb] at this; cases this
  obtain ⟨ai, ci, rfl⟩ := own_form hri
  obtain ⟨M, hM⟩ : ∃ M, M = o.inners.length := ⟨_, rfl⟩
  have hMb : M ≤ 65536 := by rw [hM]; exact HIL.out
  rw [← hM] at c5 hri hnb
  obtain ⟨u0, hu, hu0, hu1, hu2⟩ := info_parts infoRU
  have hu' := hid hu
  have hu0' := hid hu0
  have hu1' := hid hu1
  have hu2' := hid hu2
  have HRI := hid hri
  have HFIN := hid hfin
  have HAG := hid hag
  have HFF := hid hff
  have HB7 := hid hb7
  have HM7 := hid hM
  have HOM := hid hom
  have HB7O := hid hB7o
  have HNB := hid hnb
  have HOHD := hid hohd
  clear hu hu0 hu1 hu2 hri hfin hag hff hb7 hM hom hnb hohd hfr keep hat hg6p hne6 hr1 hw7 hF7 hB7 hB7o hs1 hs3 hs4 hs5 cp6 zp6
  obtain ⟨bo, hbo⟩ : ∃ b, b = B oh := ⟨_, rfl⟩
  rw [← hbo] at c5 z5 hblt ⊢
  have HBO := hid hbo
  have hnb2 : (Value.slice ai M ci).ownBlock ≠ some bo := by rw [hbo]; exact HNB.out
  clear hbo
  go_wp2_with (at_builtin; refine wpList_append_lies _ (o := ⟨some 59, _, _, _, _, _⟩) rfl (.tmp 56) (.tmp 58) 43 rfl 0 TU u0 (.int .u64 0) 1 8 Try.underlying43 hu'.out hu0'.out hu1'.out hu2'.out rfl (by decide) (.slice ai M ci) M _ rfl (HRI.out.alloc _) ⟨w7.heap.size, 0, none⟩ 1 1 [.int .u64 hd] rfl rfl (one_news _ _ _ _ rfl) (by simp [Value.oneCell']) (by decide) (by unfold maxLen; omega) (by omega) (Nat.zero_le _) (w7.heap.size + 1) (by simp) ?_; intro g8 k8 w8 hown8 hgrow8 hat8 hlt8; have hb8 : w8.heap[bo]? = w7.heap[bo]? := (by rw [hgrow8.block bo (by simp; omega) (fun e => hnb2 e.symm)]; exact Below.heap_alloc _ _ _ hblt); have c58 : w8.cell? ⟨bo, 5, none⟩ = some (.slice ai M ci) := (World.cell?_of_block hb8).trans c5; have z58 : w8.frozen? ⟨bo, 5, none⟩ = false := (World.frozen?_of_block hb8).trans z5; have HO8 := hid hown8; have HG8 := hid hgrow8; have HA8 := hid hat8; have HB8 := hid hb8; clear hown8 hgrow8 hat8 hb8)
  go_ret2
  have hb7 := HB7.out
  have hoh := HOH.out
  have hoz : 1 ≤ o.h := by rw [← hoh]; exact HOZ.out
  have hbo := HBO.out
  have hM := HM7.out
  have hnd2 : Nd (L ++ [newOb hd oh n]) := by
    unfold Nd
    rw [List.map_append, List.nodup_append]
    refine ⟨HND.out, by simp, fun a ha b hb => ?_⟩
    simp [newOb] at hb
    subst hb
    obtain ⟨z, hz, rfl⟩ := List.mem_map.1 ha
    exact HNE.out z hz
  have hfr9 : Fr (fun q => q = bo ∨ (Value.slice ai M ci).ownBlock = some q) w7 (w8.setCell ⟨bo, 5, none⟩ (.slice (some ⟨g8, 0, none⟩) (M + 1) k8)) :=
    (((Fr.refl _ _).alloc _).grown HG8.out (fun q hq _ => .inr hq)).setCell _ _ (fun _ => .inl rfl)
  have lbo : F7 bo = (o.h, 0) := by rw [hbo]; exact hb7.fb
  have lown : ∀ q, (Value.slice ai M ci).ownBlock = some q → F7 q = (o.h, 2) := fun q hq => hb7.fi q (by rw [← hM]; exact hq)
  have hat : ∀ q, (Value.slice (some ⟨g8, 0, none⟩) (M + 1) k8).ownBlock = some q → (Value.slice ai M ci).ownBlock = some q ∨ w7.heap.size ≤ q := fun q hq => by
    simp only [Value.ownBlock, Option.some.injEq] at hq
    subst hq
    rcases HA8.out with e | e
    · exact .inl e
    · right; omega
  have hnew : (Value.slice (some ⟨g8, 0, none⟩) (M + 1) k8).ownBlock ≠ some bo := fun e => by
    rcases hat bo e with e2 | e2
    · exact hnb2 e2
    · omega
  have hone := HFIN.out.one (F' := nw F7 w7.heap.size (o.h, 2)) hnd2 HOM.out hoz (fun q => { q with inners := q.inners ++ [hd] }) (fun _ => rfl) hfr9 (fun q hq => by
    rcases hq with rfl | hq
    · exact ⟨0, lbo⟩
    · exact ⟨2, lown q hq⟩) (fun _ hk => nw_lt hk) ⟨sv, .slice (some ⟨g8, 0, none⟩) (M + 1) k8, by
      rw [HB7O.out, ← hbo]
      have h9 : w8.heap[bo]? = some (.cells #[.int .u64 o.h, .int .u64 o.outer, .int .u32 o.count, .int .i64 o.value, sv, .slice ai o.inners.length ci] 101 (0, 0)) := by rw [HB8.out, hbo]; exact hb7.hb
      refine ⟨by rw [heap_setCell_same _ _ _ _ _ _ h9]; rfl, hfr9.owns hb7.hs (fun q hq e => ?_), ?_, by rw [nw_lt hblt]; exact lbo, fun q hq => ?_, fun q hq => ?_⟩
      · have l1 := hb7.fs q hq
        rcases e with rfl | e
        · rw [lbo] at l1; cases l1
        · rw [lown q e] at l1; cases l1
      · have h10 := ownsRow_setCell_other (a := ⟨bo, 5, none⟩) HO8.out hnew (.slice (some ⟨g8, 0, none⟩) (M + 1) k8)
        simp only [List.length_append, List.length_singleton, List.map_append, List.map_cons, List.map_nil, ← hM]
        exact h10
      · rw [nw_lt (hb7.hs.lt q hq).2]; exact hb7.fs q hq
      · rcases hat q hq with e | e
        · rw [nw_lt (HRI.out.lt q e).2]; exact lown q e
        · exact nw_ge e⟩
  have hlist : (L ++ [newOb hd oh n]).map (fun q => if q.h = o.h then { q with inners := q.inners ++ [hd] } else q) = addIn L oh hd ++ [newOb hd oh n] := by
    unfold addIn
    rw [if_neg (by omega), List.map_append, hoh]
    congr 1
    have : ¬ (newOb hd o.h n).h = o.h := fun e => HOHD.out (by rw [hoh]; exact e.symm)
    simp only [List.map_cons, List.map_nil, if_neg this]
  rw [hlist] at hone
  refine ⟨rfl, _, _, B7, _, hone, fun q hq => ?_, FrF.trans HFF.out (F1 := F7) (hfr9.mono (fun q hq _ => ?_)) HAG.out⟩
  · rw [nw_lt (Nat.lt_of_lt_of_le hq HFF.out.size)]; exact HAG.out q hq
  · rcases hq with rfl | hq
    · exact lab_out lbo (by omega)
    · exact lab_out (lown q hq) (by omega)
end
/-- Make, whichever way it goes. -/
theorem RfMake_any (S : Nat → Prop) (w : World) (v : Value) (s : Hs) (slots outer : Int) (h : RfH S w v s) (hout : Hn outer) : Calls Try.prog 37 #[v, .int .i64 slots, .int .u64 outer] w fun e w' => Fr S w w' ∧
    ∃ s' h er, e = .returned (.tuple #[.int .u64 h, .int .i64 er]) ∧ MkR s slots outer s' h er ∧ RfH (exS S w w') w' v s' := by
  have hR := h
  obtain ⟨p, pa, Sa, F, B, lv, rfl, h1, h3, h4, h5⟩ := h
  have hl := h3.len
  have hA := h3.ok.aok
  have hz : ∀ o ∈ s.L, 1 ≤ o.h := fun o ho => (h3.inv.nz o ho).1
  by_cases hs : slots < 0 ∨ 8 < slots
  · refine (RMake_arg w _ slots outer hs).mono ?_
    rintro e w' ⟨rfl, rfl⟩
    exact ⟨Fr.refl _ _, s, 0, 1, rfl, .arg hs, hR.ex h5 (Nat.le_refl _)⟩
  · have hs' : 0 ≤ slots ∧ slots ≤ 8 := by omega
    obtain ⟨n, rfl⟩ := Int.eq_ofNat_of_zero_le hs'.1
    have hn8 : n ≤ 8 := by omega
    have fin : ∀ {i g : Nat} {A' : Ar} (hp : Put s.A 0 i g A') (h0 : outer ≠ 0 → ∃ o, fnd s.L outer = some o ∧ o.outer = 0) {e : Ending} {w' : World}, MkP w p pa F s.top (addIn s.L outer (hand i g) ++ [newOb (hand i g) outer n]) A' (hand i g) e w' →
        Fr S w w' ∧ ∃ s' h er, e = .returned (.tuple #[.int .u64 h, .int .i64 er]) ∧ MkR s (n : Int) outer s' h er ∧ RfH (exS S w w') w' (.pointer (some ⟨p, 0, none⟩)) s' := by
      rintro i g A' hp h0 e w' ⟨rfl, Sa', F', B', lv', k1, k2, k3⟩
      have hm : MkR s (n : Int) outer _ (hand i g) 0 := .ok hs' h0 hp
      exact ⟨Fr.mono k3 (fun k hk hl => h4 k hl hk), _, _, 0, rfl, hm, p, pa, Sa', F', B', lv', rfl, by simpa using k1, hm.hsi h3 hout, exs_lab h4 k2, exs_lt h5 k3.size⟩
    have new : ∀ {i g : Nat} {A' : Ar} (hp : Put s.A 0 i g A'), (∀ o ∈ s.L, o.h ≠ hand i g) ∧ 1 ≤ hand i g := fun {i g A'} hp => by
      refine ⟨fun o ho e => ?_, ?_⟩
      · have hq := h3.past o.h (h3.ok.sub o ho)
        rw [e] at hq
        exact hp.not_past hA hq
      · unfold hand; omega
    have full : Full s.A → (outer ≠ 0 → ∃ o, fnd s.L outer = some o ∧ o.outer = 0) → Calls Try.prog 37 #[.pointer (some ⟨p, 0, none⟩), .int .i64 n, .int .u64 outer] w fun e w' => Fr S w w' ∧
        ∃ s' h er, e = .returned (.tuple #[.int .u64 h, .int .i64 er]) ∧ MkR s (n : Int) outer s' h er ∧ RfH (exS S w w') w' (.pointer (some ⟨p, 0, none⟩)) s' := fun hF h0 => by
      refine (RMake_full h1 hl hs' hF h0).mono ?_
      rintro e w' ⟨rfl, rfl⟩
      exact ⟨Fr.refl _ _, s, 0, 3, rfl, .full hs' h0 hF, hR.ex h5 (Nat.le_refl _)⟩
    by_cases h0 : outer = 0
    · subst h0
      rcases put_or_full hA (0 : Int) with hF | ⟨i, g, A', hp⟩
      · exact full hF (fun e => absurd rfl e)
      · refine (RMake_whole h1 hz hl hn8 hp (new hp).1 (new hp).2).mono fun e w' hm => fin hp (fun e => absurd rfl e) ?_
        have : addIn s.L 0 (hand i g) = s.L := by unfold addIn; rw [if_pos rfl]
        rw [this]
        exact hm
    · cases hf : fnd s.L outer with
      | none =>
        refine (RMake_stale h1 hl hs' h0 hf).mono ?_
        rintro e w' ⟨rfl, rfl⟩
        exact ⟨Fr.refl _ _, s, 0, 2, rfl, .stale hs' h0 hf, hR.ex h5 (Nat.le_refl _)⟩
      | some o =>
        by_cases ho : o.outer = 0
        · rcases put_or_full hA (0 : Int) with hF | ⟨i, g, A', hp⟩
          · exact full hF (fun _ => ⟨o, hf, ho⟩)
          · obtain ⟨hm, rfl⟩ := fnd_some hf
            have hil : o.inners.length ≤ 65536 := by
              have := nodup_len (h3.inv.idp o hm) (m := s.L.map (·.h)) (fun x hx => by
                obtain ⟨z, hz2, e, _⟩ := h3.inv.inn o hm x hx
                exact List.mem_map.2 ⟨z, hz2, e⟩)
              rw [List.length_map] at this
              omega
            exact (RMake_in h1 h3.inv.nd hm ho hil hz hl hn8 hp (new hp).1 (new hp).2).mono fun e w' hq => fin hp (fun _ => ⟨o, hf, ho⟩) hq
        · refine (RMake_inner h1 hl hs' h0 hf ho).mono ?_
          rintro e w' ⟨rfl, rfl⟩
          exact ⟨Fr.refl _ _, s, 0, 1, rfl, .inner hs' h0 o hf ho, hR.ex h5 (Nat.le_refl _)⟩
end Go.Proofs.Ytmampaglemleoaa

namespace Go.Proofs.Ytmampaglemleoaa
open Go Go.ChangeShapes Go.WideShapes Go.ChangeAt Go.RowKit

section
variable {w w' : World} {p pa : Nat} {Sa : Nat → Prop} {A A' : Ar} {F : Nat → Lab} {B : Int → Nat} {top : Int} {L : HL} {lv : Value}
theorem RhW.setl (h : RhW w p pa Sa A F B top L lv) (hn : Nd L) {o : Ob} (ho : o ∈ L) (hz : 1 ≤ o.h) {sv iv : Value} (hb : RoC w F (B o.h) sv iv o) {sb k : Nat} (hsv : sv = .slice (some ⟨sb, 0, none⟩) o.links.length k) {j : Nat} (hj : j < o.links.length) (x : Lk) :
    RhW ((w.setCell ⟨sb, j * 2, none⟩ (.int .i64 x.kind)).setCell ⟨sb, j * 2 + 1, none⟩ (.int .u64 x.h)) p pa Sa A F B top (Go.Proofs.Ytmampaglemleoaa.setl L o.h j x) lv ∧ Fr (fun k => k = sb) w ((w.setCell ⟨sb, j * 2, none⟩ (.int .i64 x.kind)).setCell ⟨sb, j * 2 + 1, none⟩ (.int .u64 x.h)) := by
  subst hsv
  have hlab : F sb = (o.h, 1) := hb.fs sb rfl
  have hfr : Fr (fun k => k = sb) w ((w.setCell ⟨sb, j * 2, none⟩ (.int .i64 x.kind)).setCell ⟨sb, j * 2 + 1, none⟩ (.int .u64 x.h)) := by
    have h0 : Fr (fun k => k = sb) w (w.setCell ⟨sb, j * 2, none⟩ (.int .i64 x.kind)) := (Fr.refl (fun k => k = sb) w).setCell _ _ (fun _ => rfl)
    exact h0.setCell _ _ (fun _ => rfl)
  have hne : B o.h ≠ sb := fun e => by have := hb.fb; rw [e, hlab] at this; cases this
  refine ⟨h.one hn ho hz (fun q => { q with links := q.links.set j x }) (fun _ => rfl) hfr (fun k e => ⟨1, by rw [e]; exact hlab⟩) (fun _ _ => rfl) ⟨.slice (some ⟨sb, 0, none⟩) o.links.length k, iv, ?_⟩, hfr⟩
  refine ⟨by rw [hfr.block _ hb.lt hne]; exact hb.hb, ?_, hfr.owns hb.hi (fun k hk e => ?_), hb.fb, hb.fs, hb.fi⟩
  · have h1 := (hb.hs.stored (j * 2) (.int .i64 x.kind)).1
    have h2 := (h1.stored (j * 2 + 1) (.int .u64 x.h)).1
    simp only [List.length_set]
    rw [← lkv_set o.links j x hj]
    exact h2
  · subst e
    have := hb.fi _ hk
    rw [hlab] at this
    cases this
theorem RPut_none (h : RhW w p pa Sa A F B top L lv) (hl : L.length ≤ 65536) {hd slot : Int} {x : Lk} (e : fnd L hd = none) :
    Calls Try.prog 41 #[.pointer (some ⟨p, 0, none⟩), .int .u64 hd, .int .i64 slot, .agg #[.int .i64 x.kind, .int .u64 x.h]] w fun e w' => e = .returned (.tuple #[.slice none 0 0, .slice none 0 0, .int .i64 2]) ∧ Below w.heap.size w w' := by
  obtain ⟨w1, hw1⟩ : ∃ w1, w1 = w.alloc (.cells #[.int .i64 x.kind, .int .u64 x.h] TLk) := ⟨_, rfl⟩
  have hb1 : Below w.heap.size w w1 := by rw [hw1]; exact (Below.refl _ _).alloc (Nat.le_refl _) _
  have h1 : RhW w1 p pa Sa A F B top L lv := h.fr (fp := fun _ => False) (Fr.of_below hb1) (fun e => e) (fun _ _ e => e) (fun _ _ e => e) (fun _ _ _ _ _ e => e) (fun _ _ => rfl)
  have HF := hid (RFind_none h1 (by omega) e)
  have HW1 := hid hw1
  have HB1 := hid hb1
  clear hw1 hb1 h1 h hl e
  go_enter Try.func41, Try.ntmps41
  go_upto_region 1 with fail
  rw [← HW1.out]
  go_wp2_with (go_at_call 43; refine HF.out.mono ?_; rintro e w2 ⟨rfl, rfl⟩)
  go_ret3
  exact ⟨rfl, HB1.out⟩
set_option maxRecDepth 100000 in
theorem RPut_arg (h : RhW w p pa Sa A F B top L lv) (hl : L.length ≤ 65536) {hd slot : Int} {x : Lk} {o : Ob} (e : fnd L hd = some o) (hb : slot < 0 ∨ (o.links.length : Int) ≤ slot ∨ x.kind < 0 ∨ 2 < x.kind ∨ (x.kind = 0 ∧ x.h ≠ 0)) :
    Calls Try.prog 41 #[.pointer (some ⟨p, 0, none⟩), .int .u64 hd, .int .i64 slot, .agg #[.int .i64 x.kind, .int .u64 x.h]] w fun e w' => e = .returned (.tuple #[.slice none 0 0, .slice none 0 0, .int .i64 1]) ∧ Below w.heap.size w w' := by
  obtain ⟨w1, hw1⟩ : ∃ w1, w1 = w.alloc (.cells #[.int .i64 x.kind, .int .u64 x.h] TLk) := ⟨_, rfl⟩
  have hb1 : Below w.heap.size w w1 := by rw [hw1]; exact (Below.refl _ _).alloc (Nat.le_refl _) _
  have h1 : RhW w1 p pa Sa A F B top L lv := h.fr (fp := fun _ => False) (Fr.of_below hb1) (fun e => e) (fun _ _ e => e) (fun _ _ e => e) (fun _ _ _ _ _ e => e) (fun _ _ => rfl)
  have HF := hid (RFind_some h1 (by omega) e)
  obtain ⟨hm, rfl⟩ := fnd_some e
  obtain ⟨sv, iv, hob⟩ := h1.ob o hm
  have c4 := hob.c4
  obtain ⟨sa, sc, rfl⟩ := own_form hob.hs
  have b0 : w1.cell? ⟨w.heap.size, 0, none⟩ = some (.int .i64 x.kind) := by rw [hw1, cell_of_row _ _ 0 _ _ _ (heap_alloc_new _ _)]; rfl
  have b1 : w1.cell? ⟨w.heap.size, 1, none⟩ = some (.int .u64 x.h) := by rw [hw1, cell_of_row _ _ 1 _ _ _ (heap_alloc_new _ _)]; rfl
  have HW1 := hid hw1
  have HB1 := hid hb1
  obtain ⟨xk, xh⟩ := x
  simp only at hb b0 b1 HW1
  generalize o.links.length = nl at *
  generalize o.h = oh at *
  clear hw1 hb1 h1 h hl e hob hm
  by_cases q1 : slot < 0
  · have d1 : decide (slot < 0) = true := by simpa using q1
    clear hb q1
    go_enter Try.func41, Try.ntmps41
    go_upto_region 1 with fail
    rw [← HW1.out]
    go_wp2_with (go_at_call 43; refine HF.out.mono ?_; rintro e w2 ⟨rfl, rfl⟩)
    go_ret3
    exact ⟨rfl, HB1.out⟩
  · have d1 : decide (slot < 0) = false := by simpa using q1
    by_cases q2 : (nl : Int) ≤ slot
    · have d2 : decide ((nl : Int) ≤ slot) = true := by simpa using q2
      clear hb q1 q2
      go_enter Try.func41, Try.ntmps41
      go_upto_region 1 with fail
      rw [← HW1.out]
      go_wp2_with (go_at_call 43; refine HF.out.mono ?_; rintro e w2 ⟨rfl, rfl⟩)
      go_ret3
      exact ⟨rfl, HB1.out⟩
    · have d2 : decide ((nl : Int) ≤ slot) = false := by simpa using q2
      by_cases q3 : xk < 0
      · have d3 : decide (xk < 0) = true := by simpa using q3
        clear hb q1 q2 q3
        go_enter Try.func41, Try.ntmps41
        go_upto_region 1 with fail
        rw [← HW1.out]
        go_wp2_with (go_at_call 43; refine HF.out.mono ?_; rintro e w2 ⟨rfl, rfl⟩)
        go_ret3
        exact ⟨rfl, HB1.out⟩
      · have d3 : decide (xk < 0) = false := by simpa using q3
        by_cases q4 : 2 < xk
        · have d4 : decide (2 < xk) = true := by simpa using q4
          clear hb q1 q2 q3 q4
          go_enter Try.func41, Try.ntmps41
          go_upto_region 1 with fail
          rw [← HW1.out]
          go_wp2_with (go_at_call 43; refine HF.out.mono ?_; rintro e w2 ⟨rfl, rfl⟩)
          go_ret3
          exact ⟨rfl, HB1.out⟩
        · have hkh : xk = 0 ∧ xh ≠ 0 := by omega
          obtain ⟨rfl, hx⟩ := hkh
          have d5 : (xh != 0) = true := by simpa using hx
          clear hb q1 q2 q3 q4 hx d3
          go_enter Try.func41, Try.ntmps41
          go_upto_region 1 with fail
          rw [← HW1.out]
          go_wp2_with (go_at_call 43; refine HF.out.mono ?_; rintro e w2 ⟨rfl, rfl⟩)
          go_ret3
          exact ⟨rfl, HB1.out⟩
end
end Go.Proofs.Ytmampaglemleoaa
