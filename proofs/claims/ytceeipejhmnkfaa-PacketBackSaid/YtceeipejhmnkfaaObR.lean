/-
  Objrefs out of bytes: readGuid, read.
-/
import Derived.Test.YtceeipejhmnkfaaObE
import Derived.Test.YtceeipejhmnkfaaWrR
namespace Go.Proofs.Ytceeipejhmnkfaa
open Go Go.ChangeShapes Go.WideShapes Go.ChangeAt Go.RowKit

set_option maxRecDepth 100000 in
/-- What is read at a place that needs no gap, where there are enough bytes. -/
theorem rd_al {f : List Int} {a k : Nat} (hk : Siz k) (ha : a % k = 0) (hl : a + k ≤ f.length) : rd f a k = (valL ((f.drop a).take k), a + k, 0) := by
  have hg : gap a k = 0 := by unfold gap; rw [ha]; simp
  unfold rd
  rw [if_neg (by rw [hk.fits]; simp), Int.toNat_natCast, hg, if_neg (by omega), if_neg (by simp)]
  simp
theorem Fr.of_setRow (w : World) (g : Nat) (cs : Array Value) : Fr (fun j => j = g) w (w.setRow g cs) :=
  ⟨rfl, rfl, rfl, by simp [World.setRow], fun k _ hn => setRow_other w g k cs hn⟩
/-- A reader behind a call: its place, what has turned. -/
def RTo (w : World) (p : Nat) (v : Value) (f : List Int) (a : Nat) (w' : World) : Prop := RdW w' p v a f ∧ Fr (fun j => j = p) w w'
set_option maxRecDepth 100000 in
theorem RdNum_al (w : World) (p a : Nat) (v : Value) (f : List Int) (k : Nat) (h : RdW w p v a f) (hb : Byt f) (hl : f.length ≤ 140737488351232) (hk : Siz k) (ha : a % k = 0) (hle : a + k ≤ f.length) :
    Calls Try.prog 81 #[.pointer (some ⟨p, 0, none⟩), .int .i64 k] w fun e w' => e = .returned (.tuple #[.int .u64 (valL ((f.drop a).take k)), .int .i64 0]) ∧ RTo w p v f (a + k) w' := by
  refine (RdNum_any w p a v f k h hb hl).mono fun e w' hp => ?_
  unfold RNumPost at hp
  rw [rd_al hk ha hle] at hp
  exact ⟨hp.1, hp.2.1, hp.2.2⟩
theorem take_one {f : List Int} {a : Nat} (h : a < f.length) : valL ((f.drop a).take 1) = f.getD a 0 := by
  have hx : (f.drop a)[0]? = some (f.getD a 0) := by rw [List.getElem?_drop]; exact getD_at h
  rw [show (1 : Nat) = 0 + 1 from rfl, List.take_add_one, hx]
  simp [valL]
/-- Sixteen places, of which q are filled. -/
def part16 (f : List Int) (a q : Nat) : List Int := (f.drop a).take q ++ List.replicate (16 - q) 0
theorem part16_len {f : List Int} {a q : Nat} (h : a + q ≤ f.length) (hq : q ≤ 16) : (part16 f a q).length = 16 := by simp [part16]; omega
theorem part16_set {f : List Int} {a q : Nat} (h : a + q < f.length) (hq : q < 16) : (part16 f a q).set q (f.getD (a + q) 0) = part16 f a (q + 1) := by
  have hl : ((f.drop a).take q).length = q := by simp; omega
  have hr : List.replicate (16 - q) (0 : Int) = 0 :: List.replicate (16 - (q + 1)) 0 := by
    rw [show 16 - q = (16 - (q + 1)) + 1 by omega, List.replicate_succ]
  have hx : (f.drop a)[q]? = some (f.getD (a + q) 0) := by rw [List.getElem?_drop]; exact getD_at h
  unfold part16
  rw [hr, List.set_append_right _ _ (by omega), hl, Nat.sub_self, List.set_cons_zero, List.take_add_one, hx, List.append_assoc]
  rfl
set_option maxRecDepth 100000 in
set_option maxHeartbeats 1000000 in
theorem readGuid_any (w : World) (p a : Nat) (v : Value) (f : List Int) (h : RdW w p v a f) (hb : Byt f) (hl : f.length ≤ 1000000) (hle : a + 16 ≤ f.length) :
    Calls Try.prog 88 #[.pointer (some ⟨p, 0, none⟩)] w fun e w' => e = .returned (.agg (u8s ((f.drop a).take 16))) ∧ RTo w p v f (a + 16) w' := by
  have hp := h.lt
  have HB := hid hb
  have H := hid h
  have hv : ∀ k, v.ownBlock = some k → k < w.heap.size := fun k hk => (h.row.lt k hk).2
  have HV := hid hv
  obtain ⟨w1, hw1⟩ : ∃ w1, w1 = (w.alloc (.cells (u8s (List.replicate 16 0)) 24)).alloc (.cells (u8s (List.replicate 16 0)) 24) := ⟨_, rfl⟩
  have hr : w1.heap[w.heap.size]? = some (.cells (u8s (List.replicate 16 0)) 24 (0, 0)) := by rw [hw1]; exact heap_alloc2_old _ _ _
  have hg : w1.heap[w.heap.size + 1]? = some (.cells (u8s (part16 f a 0)) 24 (0, 0)) := by rw [hw1]; exact heap_alloc2_new _ _ _
  have hf : Fr (fun j => j = p) w w1 := by rw [hw1]; exact ((Fr.refl _ w).alloc _).alloc _
  have hrd : RdW w1 p v (a + 0) f := h.fr (fp := fun _ => False) (by rw [hw1]; exact ((Fr.refl _ w).alloc _).alloc _) (fun h => h) (fun _ _ h => h)
  have HW1 := hid hw1
  have HST : RowKit.Hid (RdW w1 p v (a + 0) f ∧ Fr (fun j => j = p) w w1 ∧ w1.heap[w.heap.size]? = some (.cells (u8s (List.replicate 16 0)) 24 (0, 0)) ∧ w1.heap[w.heap.size + 1]? = some (.cells (u8s (part16 f a 0)) 24 (0, 0))) := hid ⟨hrd, hf, hr, hg⟩
  clear h hb hv hw1 hr hg hf hrd
  go_enter Try.func88, Try.ntmps88
  go_upto_region 2 with (fail)
  change Code.wp _ _ _ _ ((w.alloc (.cells (u8s (List.replicate 16 0)) 24)).alloc (.cells (u8s (List.replicate 16 0)) 24))
  rw [← HW1.out]
  clear HW1 H
  go_wp2
  go_loopw [4, 5, 6, 7] (fun _ _ _ n wr => ∃ q : Nat, q ≤ 16 ∧ n = .int .i64 q ∧ RowKit.Hid (RdW wr p v (a + q) f ∧ Fr (fun j => j = p) w wr ∧ wr.heap[w.heap.size]? = some (.cells (u8s (List.replicate 16 0)) 24 (0, 0)) ∧ wr.heap[w.heap.size + 1]? = some (.cells (u8s (part16 f a q)) 24 (0, 0)))) (fun _ _ _ n _ => 16 - (intOf n).toNat)
  case atStart => exact ⟨0, by omega, rfl, HST⟩
  case round =>
    clear HST
    obtain ⟨q, hq, rfl, HR⟩ := hrel
    by_cases hlt : q < 16
    · have HN := hid (RdNum_al wr p (a + q) v f 1 HR.out.1 HB.out (by omega) (.inl rfl) (by omega) (by omega))
      rw [take_one (by omega)] at HN
      have hx0 := getD_byt HB.out (a + q)
      have HP := hid (part16_set (f := f) (a := a) (q := q) (by omega) hlt)
      generalize f.getD (a + q) 0 = x at *
      have hwx : IntKind.u8.wrap x = x := IntWalk.u8_in _ ⟨by omega, by omega⟩
      go_wp2_with fail
      refine HN.out.mono ?_
      rintro e w2 ⟨rfl, h1, h2⟩
      have hg2 : w2.heap[w.heap.size + 1]? = some (.cells (u8s (part16 f a q)) 24 (0, 0)) := by
        rw [h2.block _ (lt_of_heap HR.out.2.2.2) (by omega)]; exact HR.out.2.2.2
      have hr2 : w2.heap[w.heap.size]? = some (.cells (u8s (List.replicate 16 0)) 24 (0, 0)) := by
        rw [h2.block _ (lt_of_heap HR.out.2.2.1) (by omega)]; exact HR.out.2.2.1
      have hf2 : Fr (fun j => j = p) w w2 := HR.out.2.1.trans h2 (fun _ h _ => h)
      have c0 := cell_u8s hg2 q (by rw [part16_len (by omega) (by omega)]; exact hlt)
      have z0 := frozen_of_row w2 (w.heap.size + 1) q _ 24 hg2
      have HG2 := hid hg2
      have HR2 := hid hr2
      have HF2 := hid hf2
      have H1 := hid h1
      clear h1 h2 hg2 hr2 hf2 HN HR
      go_wp2
      go_roundw
      case rel =>
        refine ⟨q + 1, by omega, by go_num, hid ⟨?_, HF2.out.setCell _ _ (fun hh => ?_), ?_, ?_⟩⟩
        · have := H1.out
          refine this.fr (fp := fun j => j = w.heap.size + 1) ((Fr.refl _ w2).setCell _ _ (fun _ => rfl)) (by omega) (fun k hk e => by have := HV.out k hk; omega)
        · exfalso; simp only at hh; omega
        · rw [Below.heap_setCell _ _ _ _ (by simp)]; exact HR2.out
        · rw [set_u8s HG2.out, HP.out]
      case measure => simp [intOf]; omega
    · obtain rfl : q = 16 := by omega
      have hp16 : part16 f a 16 = (f.drop a).take 16 := by simp [part16]
      have hr := HR.out
      rw [hp16] at hr
      have hl16 : ((f.drop a).take 16).length = 16 := by simp; omega
      have HR2 := hid hr
      have HL := hid hl16
      clear HR hr hp16 hl16
      go_wp2_with (first
        | ((with_reducible refine at_op ⟨some 20, _, _, _, _, _⟩ ?_); refine wpList_load_row rfl 24 _ rfl (w.heap.size + 1) rfl 24 (u8s ((f.drop a).take 16)) (0, 0) _ HR2.out.2.2.2 Try.underlying24 rfl (by rw [u8s_size, HL.out]; exact infoG) ?_)
        | ((with_reducible refine at_op ⟨none, .store 24 (.tmp 2) (.tmp 20), _, _, _, _⟩ ?_); refine wpList_store_row rfl 24 _ _ rfl w.heap.size (u8s ((f.drop a).take 16)) rfl rfl 24 (u8s (List.replicate 16 0)) HR2.out.2.2.1 (by rw [u8s_size, HL.out]; exact infoG) (by rw [u8s_size, u8s_size, HL.out]; rfl) (u8s_one _) ?_))
      have hZ5 : (wr.setRow w.heap.size (u8s ((f.drop a).take 16))).heap[w.heap.size]? = some (.cells (u8s ((f.drop a).take 16)) 24 (0, 0)) := setRow_heap _ _ _ _ _ _ HR2.out.2.2.1
      refine bodyPost_ret (v := .agg (u8s ((f.drop a).take 16))) ?_ rfl ⟨rfl, ?_, ?_⟩
      · rw [results_cell1 (fn := Try.f88) rfl]
        simp only [Act.put, List.setIfInBounds_toArray, List.set_cons_zero, List.set_cons_succ]
        have hl := run_loadVar_row (P := Try.prog) _ w.heap.size 24 24 (u8s ((f.drop a).take 16)) (0, 0) _ hZ5 Try.underlying24 rfl (by rw [u8s_size, HL.out]; exact infoG)
        simp [asAddr, hl, Result.andThen]
      · exact HR2.out.1.fr (fp := fun j => j = w.heap.size) (Fr.of_setRow wr _ _) (by omega) (fun k hk e => by have := HV.out k hk; omega)
      · exact HR2.out.2.1.trans (Fr.of_setRow wr _ _) (fun j hj hl => by omega)
/-- What is read of a form. -/
def rdO (f : List Int) : Orf := ⟨valL ((f.drop 4).take 4), valL ((f.drop 8).take 4), valL ((f.drop 16).take 8), valL ((f.drop 24).take 8), (f.drop 32).take 16, (f.drop 48).take 16⟩
theorem IsG.of {f : List Int} {a : Nat} (hb : Byt f) (h : a + 16 ≤ f.length) : IsG ((f.drop a).take 16) := by
  have hbb : Byt ((f.drop a).take 16) := hb.part a 16
  exact ⟨by simp; omega, fun j => (getD_byt hbb j).1, fun j => (getD_byt hbb j).2⟩
theorem rdO_ok {f : List Int} (hb : Byt f) (h : 64 ≤ f.length) : OrfOk (rdO f) := by
  have p4 : (256 : Int) ^ 4 = 4294967296 := by decide
  have p8 : (256 : Int) ^ 8 = 18446744073709551616 := by decide
  have h1 := valL_le (hb.part 4 4) 4 (by simp; omega)
  have h2 := valL_le (hb.part 8 4) 4 (by simp; omega)
  have h3 := valL_le (hb.part 16 8) 8 (by simp; omega)
  have h4 := valL_le (hb.part 24 8) 8 (by simp; omega)
  rw [p4] at h1 h2
  rw [p8] at h3 h4
  exact ⟨h1.1, by show valL _ ≤ _; omega, h2.1, by show valL _ ≤ _; omega, h3.1, by show valL _ ≤ _; omega, h4.1, by show valL _ ≤ _; omega, IsG.of hb (by omega), IsG.of hb (by omega)⟩
theorem list16 (xs : List Int) (h : xs.length = 16) : ∃ a0 a1 a2 a3 a4 a5 a6 a7 a8 a9 a10 a11 a12 a13 a14 a15, xs = [a0, a1, a2, a3, a4, a5, a6, a7, a8, a9, a10, a11, a12, a13, a14, a15] := by
  match xs, h with
  | [a0, a1, a2, a3, a4, a5, a6, a7, a8, a9, a10, a11, a12, a13, a14, a15], _ => exact ⟨a0, a1, a2, a3, a4, a5, a6, a7, a8, a9, a10, a11, a12, a13, a14, a15, rfl⟩
set_option maxRecDepth 100000 in
/-- An Objref made of its fields. -/
theorem exec_build {o : Oper} {f : Operand → Value} {W : World} {p0 p1 p2 p3 p4 p5 : Operand} {fl rf ox oi : Int} {ip ii : List Int} (ho : o.op = .build 58 #[(0, p0), (1, p1), (2, p2), (3, p3), (4, p4), (5, p5)])
    (h0 : f p0 = .int .u32 fl) (h1 : f p1 = .int .u32 rf) (h2 : f p2 = .int .u64 ox) (h3 : f p3 = .int .u64 oi) (h4 : f p4 = .agg (u8s ip)) (h5 : f p5 = .agg (u8s ii)) (hl4 : ip.length = 16) (hl5 : ii.length = 16) :
    (execOp f o).run Try.prog W = .ok (.value (.agg (orA ⟨fl, rf, ox, oi, ip, ii⟩))) W := by
  obtain ⟨a0, a1, a2, a3, a4, a5, a6, a7, a8, a9, a10, a11, a12, a13, a14, a15, rfl⟩ := list16 ip hl4
  obtain ⟨b0, b1, b2, b3, b4, b5, b6, b7, b8, b9, b10, b11, b12, b13, b14, b15, rfl⟩ := list16 ii hl5
  unfold execOp
  simp only [ho]
  simp only [List.map_toArray, List.map_cons, List.map_nil, h0, h1, h2, h3, h4, h5, u8s]
  go_simp
  rfl
/-- What read has till now: its reader, the block of the result. -/
structure RSt (w : World) (f : List Int) (p : Nat) (v : Value) (a : Nat) (W : World) : Prop where
  rd : RdW W p v a f
  z : W.heap[w.heap.size + 1]? = some (.cells (orA orZ) 58 (0, 0))
  b : Below w.heap.size w W
  hp : w.heap.size + 2 ≤ p
theorem RSt.to {w W W' : World} {f : List Int} {p a a' : Nat} {v : Value} (h : RSt w f p v a W) (ht : RTo W p v f a' W') : RSt w f p v a' W' := by
  have hp := h.hp
  refine ⟨ht.1, ?_, h.b.trans (ht.2.below h.b.size (fun k hk => by omega)), hp⟩
  rw [ht.2.block _ (lt_of_heap h.z) (by omega)]
  exact h.z
theorem RSt.num {w W : World} {f : List Int} {p a : Nat} {v : Value} (h : RSt w f p v a W) (hb : Byt f) (hl : f.length = 64) (k : Nat) (hk : Siz k) (ha : a % k = 0) (hle : a + k ≤ 64) :
    Calls Try.prog 81 #[.pointer (some ⟨p, 0, none⟩), .int .i64 k] W fun e W' => e = .returned (.tuple #[.int .u64 (valL ((f.drop a).take k)), .int .i64 0]) ∧ RSt w f p v (a + k) W' :=
  (RdNum_al W p a v f k h.rd hb (by omega) hk ha (by omega)).mono fun _ _ hh => ⟨hh.1, h.to hh.2⟩
/-- .. behind a GUID read and laid in a block of its own. -/
theorem RSt.boxed {w W : World} {f : List Int} {p a : Nat} {v : Value} (h : RSt w f p v a W) (g : List Int) : RSt w f p v a ((W.alloc (.cells (u8s (List.replicate 16 0)) 24)).setRow W.heap.size (u8s g)) ∧
    ((W.alloc (.cells (u8s (List.replicate 16 0)) 24)).setRow W.heap.size (u8s g)).heap[W.heap.size]? = some (.cells (u8s g) 24 (0, 0)) := by
  have hf : Fr (fun _ => False) W ((W.alloc (.cells (u8s (List.replicate 16 0)) 24)).setRow W.heap.size (u8s g)) :=
    (frA W _).trans (Fr.of_setRow _ W.heap.size (u8s g)) (fun j hj hl => by omega)
  refine ⟨⟨h.rd.fr hf (fun h => h) (fun _ _ h => h), ?_, ?_, h.hp⟩, setRow_heap _ _ _ _ _ _ (heap_alloc_new _ _)⟩
  · rw [hf.block _ (lt_of_heap h.z) (fun h => h)]; exact h.z
  · exact h.b.trans ((hf.below (Nat.le_refl _) (fun k hk => hk.elim)).mono h.b.size)
set_option maxRecDepth 100000 in
set_option maxHeartbeats 2000000 in
theorem read_any (f : List Int) (hb : Byt f) (hl : f.length = 64) (w : World) : Calls Try.prog 86 #[.agg (u8s f)] w fun e w' => e = .returned (.agg (orA (rdO f))) ∧ Below w.heap.size w w' := by
  have HN : Calls Try.prog 33 #[.slice (some ⟨w.heap.size, 0, none⟩) 64 64] ((w.alloc (.cells (u8s f) 107)).alloc (.cells (orA orZ) 58)) fun e W => ∃ p v, e = .returned (.pointer (some ⟨p, 0, none⟩)) ∧ RSt w f p v 0 W := by
    obtain ⟨W0, hW0⟩ : ∃ W0, W0 = (w.alloc (.cells (u8s f) 107)).alloc (.cells (orA orZ) 58) := ⟨_, rfl⟩
    have h0 : W0.heap[w.heap.size]? = some (.cells (u8s f) 107 (0, 0)) := by rw [hW0]; exact heap_alloc2_old _ _ _
    have h1 : W0.heap[w.heap.size + 1]? = some (.cells (orA orZ) 58 (0, 0)) := by rw [hW0]; exact heap_alloc2_new _ _ _
    have hs : W0.heap.size = w.heap.size + 2 := by rw [hW0]; simp
    have hB : Below w.heap.size w W0 := by rw [hW0]; exact ((Below.refl _ _).alloc (Nat.le_refl _) _).alloc (by simp) _
    rw [← hW0]
    refine (NewReader_any W0 (some ⟨w.heap.size, 0, none⟩) 64 64 f hl.symm ⟨fun _ => ⟨_, _, rfl, by omega⟩, fun b o he => by cases he; exact AtL.row (cs := u8l f) h0⟩ (fun h => by cases h) (by omega)).mono ?_
    rintro e W ⟨p, v, rfl, hr, hbl, hp, _⟩
    exact ⟨p, v, rfl, hr, by rw [hbl.block _ (lt_of_heap h1)]; exact h1, hB.trans (hbl.mono hB.size), by omega⟩
  have HNN := hid HN
  have HB := hid hb
  have HL := hid hl
  have HOK := hid (rdO_ok hb (by omega))
  clear HN hb hl
  go_enter Try.func86, Try.ntmps86
  go_wp2_with fail
  refine HNN.out.mono ?_
  rintro e W0 ⟨p, v, rfl, hs⟩
  have HS := hid hs
  clear hs HNN
  go_wp2_with fail
  refine (HS.out.num HB.out HL.out 4 (.inr (.inr (.inl rfl))) (by decide) (by decide)).mono ?_
  rintro e W1 ⟨rfl, hs⟩
  clear HS
  have HS := hid hs
  clear hs
  go_wp2_with fail
  refine (HS.out.num HB.out HL.out 4 (.inr (.inr (.inl rfl))) (by decide) (by decide)).mono ?_
  rintro e W2 ⟨rfl, hs⟩
  clear HS
  have HS := hid hs
  clear hs
  go_wp2_with fail
  refine (HS.out.num HB.out HL.out 4 (.inr (.inr (.inl rfl))) (by decide) (by decide)).mono ?_
  rintro e W3 ⟨rfl, hs⟩
  clear HS
  have HS := hid hs
  clear hs
  go_wp2_with fail
  refine (HS.out.num HB.out HL.out 4 (.inr (.inr (.inl rfl))) (by decide) (by decide)).mono ?_
  rintro e W4 ⟨rfl, hs⟩
  clear HS
  have HS := hid hs
  clear hs
  go_wp2_with fail
  refine (HS.out.num HB.out HL.out 8 (.inr (.inr (.inr rfl))) (by decide) (by decide)).mono ?_
  rintro e W5 ⟨rfl, hs⟩
  clear HS
  have HS := hid hs
  clear hs
  go_wp2_with fail
  refine (HS.out.num HB.out HL.out 8 (.inr (.inr (.inr rfl))) (by decide) (by decide)).mono ?_
  rintro e W6 ⟨rfl, hs⟩
  clear HS
  have HS := hid hs
  clear hs
  go_wp2_with fail
  refine (readGuid_any W6 p 32 v f HS.out.rd HB.out (by have := HL.out; omega) (by have := HL.out; omega)).mono ?_
  rintro e W7 ⟨rfl, ht⟩
  obtain ⟨g1, hg1⟩ : ∃ g1, g1 = (f.drop 32).take 16 := ⟨_, rfl⟩
  rw [← hg1]
  have HG1 := hid hg1
  have HI1 := hid (show IsG g1 by rw [hg1]; exact IsG.of HB.out (by have := HL.out; omega))
  have HS7 := hid (HS.out.to ht)
  clear HS ht hg1
  have hn7 := heap_alloc_new W7 (.cells (u8s (List.replicate 16 0)) 24)
  have HN7 := hid hn7
  have HB7 := hid (HS7.out.boxed g1)
  clear hn7
  go_upto_region 9 with (first | ((with_reducible refine at_op ⟨none, .store 24 (.tmp 12) (.tmp 41), _, _, _, _⟩ ?_); refine wpList_store_row rfl 24 _ _ rfl W7.heap.size (u8s g1) rfl rfl 24 (u8s (List.replicate 16 0)) HN7.out (by rw [u8s_size, HI1.out.len]; exact infoG) (by rw [u8s_size, u8s_size, HI1.out.len]; rfl) (u8s_one _) ?_))
  obtain ⟨W8, hW8⟩ : ∃ W8, W8 = (W7.alloc (.cells (u8s (List.replicate 16 0)) 24)).setRow W7.heap.size (u8s g1) := ⟨_, rfl⟩
  change Code.wp _ _ _ _ ((W7.alloc (.cells (u8s (List.replicate 16 0)) 24)).setRow W7.heap.size (u8s g1))
  rw [← hW8] at HB7 ⊢
  obtain ⟨G1, hG1⟩ : ∃ G1, G1 = W7.heap.size := ⟨_, rfl⟩
  have hpG : p < G1 := by rw [hG1]; exact HS7.out.rd.lt
  rw [← hG1] at HB7 ⊢
  have hGl : w.heap.size + 1 < G1 := by have := HS7.out.hp; omega
  clear HN7 hW8 HS7 hG1
  go_wp2_with fail
  refine (readGuid_any W8 p 48 v f HB7.out.1.rd HB.out (by have := HL.out; omega) (by have := HL.out; omega)).mono ?_
  rintro e W9 ⟨rfl, ht⟩
  obtain ⟨g2, hg2⟩ : ∃ g2, g2 = (f.drop 48).take 16 := ⟨_, rfl⟩
  rw [← hg2]
  have HG2 := hid hg2
  have HI2 := hid (show IsG g2 by rw [hg2]; exact IsG.of HB.out (by have := HL.out; omega))
  have hb9 : W9.heap[G1]? = some (.cells (u8s g1) 24 (0, 0)) := by rw [ht.2.block _ (lt_of_heap HB7.out.2) (by omega)]; exact HB7.out.2
  have hG9 := lt_of_heap hb9
  have HS9 := hid (HB7.out.1.to ht)
  have HN9 := hid (heap_alloc_new W9 (.cells (u8s (List.replicate 16 0)) 24))
  have HB9 := hid (HS9.out.boxed g2)
  have H19 := hid hb9
  clear HB7 ht hg2 hb9
  go_upto_region 10 with (first | ((with_reducible refine at_op ⟨none, .store 24 (.tmp 13) (.tmp 43), _, _, _, _⟩ ?_); refine wpList_store_row rfl 24 _ _ rfl W9.heap.size (u8s g2) rfl rfl 24 (u8s (List.replicate 16 0)) HN9.out (by rw [u8s_size, HI2.out.len]; exact infoG) (by rw [u8s_size, u8s_size, HI2.out.len]; rfl) (u8s_one _) ?_))
  obtain ⟨W10, hW10⟩ : ∃ W10, W10 = (W9.alloc (.cells (u8s (List.replicate 16 0)) 24)).setRow W9.heap.size (u8s g2) := ⟨_, rfl⟩
  change Code.wp _ _ _ _ ((W9.alloc (.cells (u8s (List.replicate 16 0)) 24)).setRow W9.heap.size (u8s g2))
  have hb10 : W10.heap[G1]? = some (.cells (u8s g1) 24 (0, 0)) := by
    rw [hW10, setRow_other _ _ _ _ (by omega), heap_alloc_old _ _ hG9]; exact H19.out
  rw [← hW10] at HB9 ⊢
  obtain ⟨G2, hG2⟩ : ∃ G2, G2 = W9.heap.size := ⟨_, rfl⟩
  rw [← hG2] at HB9 ⊢
  have H110 := hid hb10
  clear HN9 hW10 HS9 H19 hb10 hG9 hG2
  have hf4 := valL_le (HB.out.part 4 4) 4 (by simp; omega)
  have hf8 := valL_le (HB.out.part 8 4) 4 (by simp; omega)
  rw [show (256 : Int) ^ 4 = 4294967296 by decide] at hf4 hf8
  have hw1 := IntWalk.u32_in _ (show _ ∧ _ from ⟨hf4.1, Int.le_sub_one_of_lt hf4.2⟩)
  have hw2 := IntWalk.u32_in _ (show _ ∧ _ from ⟨hf8.1, Int.le_sub_one_of_lt hf8.2⟩)
  clear hf4 hf8
  have hx : rdO f = ⟨valL ((f.drop 4).take 4), valL ((f.drop 8).take 4), valL ((f.drop 16).take 8), valL ((f.drop 24).take 8), g1, g2⟩ := by rw [HG1.out, HG2.out]; rfl
  have HX := hid hx
  clear hx
  go_wp2_with (first
    | ((with_reducible refine at_op ⟨some 50, _, _, _, _, _⟩ ?_); refine wpList_load_row rfl 24 _ rfl G1 rfl 24 (u8s g1) (0, 0) _ H110.out Try.underlying24 rfl (by rw [u8s_size, HI1.out.len]; exact infoG) ?_)
    | ((with_reducible refine at_op ⟨some 51, _, _, _, _, _⟩ ?_); refine wpList_load_row rfl 24 _ rfl G2 rfl 24 (u8s g2) (0, 0) _ HB9.out.2 Try.underlying24 rfl (by rw [u8s_size, HI2.out.len]; exact infoG) ?_)
    | ((with_reducible refine at_op ⟨some 52, _, _, _, _, _⟩ ?_); refine wpList_run rfl (.agg (orA (rdO f))) (by rw [HX.out]; exact exec_build rfl rfl rfl rfl rfl rfl rfl HI1.out.len HI2.out.len) ?_)
    | ((with_reducible refine at_op ⟨none, .store 58 (.tmp 2) (.tmp 52), _, _, _, _⟩ ?_); refine wpList_store_row rfl 58 _ _ rfl (w.heap.size + 1) (orA (rdO f)) rfl rfl 58 (orA orZ) HB9.out.1.z (infoO HOK.out) (by rw [orA_size HOK.out, orA_size orZ_ok]) (orA_one _) ?_))
  have hZ5 : (W10.setRow (w.heap.size + 1) (orA (rdO f))).heap[w.heap.size + 1]? = some (.cells (orA (rdO f)) 58 (0, 0)) := setRow_heap _ _ _ _ _ _ HB9.out.1.z
  refine bodyPost_ret (v := .agg (orA (rdO f))) ?_ rfl ⟨rfl, below_setRow HB9.out.1.b _ _ (by omega)⟩
  rw [results_cell1 (fn := Try.f86) rfl]
  simp only [Act.put, List.setIfInBounds_toArray, List.set_cons_zero, List.set_cons_succ]
  have hl := run_loadVar_row (P := Try.prog) _ (w.heap.size + 1) 58 58 (orA (rdO f)) (0, 0) _ hZ5 Try.underlying58 rfl (infoO HOK.out)
  simp [asAddr, hl, Result.andThen]
end Go.Proofs.Ytceeipejhmnkfaa
