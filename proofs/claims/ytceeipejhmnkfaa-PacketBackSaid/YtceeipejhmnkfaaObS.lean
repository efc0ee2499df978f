/-
  The plain twin's Decode of Objrefs.
-/
import Derived.Test.YtceeipejhmnkfaaObD
import Derived.Test.YtceeipejhmnkfaaObF
import Derived.Test.YtceeipejhmnkfaaObN
import Derived.Test.YtceeipejhmnkfaaSureA
import Derived.Test.YtceeipejhmnkfaaWrSame
namespace Go.Proofs.Ytceeipejhmnkfaa
open Go Go.ChangeShapes Go.WideShapes Go.ChangeAt Go.RowKit

theorem wpList_runW {P : Program} {w : World} {ops : Array Oper} {rest : List Oper} {o : Oper} {a : Act} {Q : Exit → Act → World → Prop} (hw : Region.wanted o (yielded ops a.tmps) = true) (v : Value)
    (hr : (execOp a.eval o).run P w = .ok (.value v) w) (h : wpList P ops Q rest (a.put o.dst v) w) : wpList P ops Q (o :: rest) a w :=
  BigFrame.wpList_want hw fun K hK => by
    unfold Oper.wp
    rw [hr]
    exact hK _ _ h
set_option maxRecDepth 100000 in
theorem load_o {o : Oper} {f : Operand → Value} {p : Operand} {b : Nat} {x : Orf} {W : World} (ho : o.op = .load 58 p) (hp : f p = .pointer (some ⟨b, 0, none⟩)) (h : InO W b x) (hx : OrfOk x) : (execOp f o).run Try.prog W = .ok (.value (.agg (orA x))) W := by
  have h1 := h.row hx
  unfold execOp
  simp only [ho, hp, Instr.loadAt, Instr.sureAddr, Sem.run_bind, Sem.run_pure, Result.andThen_ok, h1]
set_option maxRecDepth 100000 in
/-- An Objref made of its first fields. -/
theorem exec_build4 {o : Oper} {f : Operand → Value} {W : World} {p0 p1 p2 p3 : Operand} {fl rf ox oi : Int} (ho : o.op = .build 58 #[(0, p0), (1, p1), (2, p2), (3, p3)])
    (h0 : f p0 = .int .u32 fl) (h1 : f p1 = .int .u32 rf) (h2 : f p2 = .int .u64 ox) (h3 : f p3 = .int .u64 oi) :
    (execOp f o).run Try.prog W = .ok (.value (.agg (orA ⟨fl, rf, ox, oi, List.replicate 16 0, List.replicate 16 0⟩))) W := by
  unfold execOp
  simp only [ho]
  simp only [List.map_toArray, List.map_cons, List.map_nil, h0, h1, h2, h3]
  go_simp
  rfl
set_option maxRecDepth 100000 in
/-- A part of a row of bytes. -/
theorem exec_cut {o : Oper} {f : Operand → Value} {W : World} {p : Operand} {b oo n cap lo hi : Nat} (ho : o.op = .slice 30 p (some (.const (.int .i64 lo))) (some (.const (.int .i64 hi))) none) (hp : f p = .slice (some ⟨b, oo, none⟩) n cap) (hlo : f (.const (.int .i64 lo)) = .int .i64 lo) (hhi : f (.const (.int .i64 hi)) = .int .i64 hi) (h1 : lo ≤ hi) (h2 : hi ≤ cap) (h3 : lo < cap) :
    (execOp f o).run Try.prog W = .ok (.value (.slice (some ⟨b, oo + lo, none⟩) (hi - lo) (cap - lo))) W := by
  have hne : ¬ cap = lo := by omega
  have hle : lo ≤ cap := by omega
  unfold execOp
  simp only [ho, hp]
  simp only [Option.map, hlo, hhi]
  go_simp
theorem u8l_set (xs : List Int) (i : Nat) (v : Int) : (u8l xs).set i (.int .u8 v) = u8l (xs.set i v) := by simp [u8l, List.map_set]
theorem orc_set_ip (x : Orf) (i : Nat) (v : Int) (hi : i < x.ip.length) : (orc x).set (4 + i) (.int .u8 v) = orc { x with ip := x.ip.set i v } := by
  unfold orc
  rw [List.set_append_right _ _ (by simp), List.set_append_left _ _ (by simp [u8l]; omega)]
  simp only [List.length_cons, List.length_nil]
  rw [show 4 + i - (0 + 1 + 1 + 1 + 1) = i by omega, u8l_set]
theorem orc_set_ii (x : Orf) (i : Nat) (v : Int) (h16 : x.ip.length = 16) : (orc x).set (20 + i) (.int .u8 v) = orc { x with ii := x.ii.set i v } := by
  unfold orc
  rw [List.set_append_right _ _ (by simp; omega), List.set_append_right _ _ (by simp [u8l, h16]; omega)]
  simp only [List.length_cons, List.length_nil, u8l_len, h16]
  rw [show 20 + i - (0 + 1 + 1 + 1 + 1) - 16 = i by omega, u8l_set]
theorem InO.set_ip {W : World} {b : Nat} {x : Orf} (h : InO W b x) (i : Nat) (v : Int) (hi : i < x.ip.length) : InO (W.setCell ⟨b, 4 + i, none⟩ (.int .u8 v)) b { x with ip := x.ip.set i v } := by
  unfold InO at h ⊢
  rw [heap_setCell_same W b (4 + i) _ _ _ h]
  have := orc_set_ip x i v hi
  unfold orA
  rw [List.setIfInBounds_toArray, this]
theorem InO.set_ii {W : World} {b : Nat} {x : Orf} (h : InO W b x) (i : Nat) (v : Int) (h16 : x.ip.length = 16) : InO (W.setCell ⟨b, 20 + i, none⟩ (.int .u8 v)) b { x with ii := x.ii.set i v } := by
  unfold InO at h ⊢
  rw [heap_setCell_same W b (20 + i) _ _ _ h]
  have := orc_set_ii x i v h16
  unfold orA
  rw [List.setIfInBounds_toArray, this]
theorem orc_ip_at {x : Orf} {i : Nat} (hi : i < x.ip.length) : (orc x)[4 + i]? = some (.int .u8 (x.ip.getD i 0)) := by
  unfold orc
  rw [List.getElem?_append_right (by simp), List.getElem?_append_left (by simp [u8l]; omega)]
  simp only [List.length_cons, List.length_nil]
  rw [show 4 + i - (0 + 1 + 1 + 1 + 1) = i by omega, u8l_at hi]
theorem orc_ii_at {x : Orf} {i : Nat} (h16 : x.ip.length = 16) (hi : i < x.ii.length) : (orc x)[20 + i]? = some (.int .u8 (x.ii.getD i 0)) := by
  unfold orc
  rw [List.getElem?_append_right (by simp; omega), List.getElem?_append_right (by simp [u8l, h16]; omega)]
  simp only [List.length_cons, List.length_nil, u8l_len, h16]
  rw [show 20 + i - (0 + 1 + 1 + 1 + 1) - 16 = i by omega, u8l_at hi]
/-- What has been read when k bytes of both GUIDs are. -/
def orP (b : List Int) (k l : Nat) : Orf := ⟨valL ((b.drop 4).take 4), valL ((b.drop 8).take 4), valL ((b.drop 16).take 8), valL ((b.drop 24).take 8), part16 b 32 k, part16 b 48 l⟩
theorem orP_all (b : List Int) : orP b 16 16 = rdO b := by simp [orP, rdO, part16]
set_option maxRecDepth 100000 in
theorem rdec_ret {Q : Ending → World → Prop} {a : Act} {W : World} {b : Nat} {u : Value} {x : Orf} (h2 : a.tmps.getD 2 undef = .pointer (some ⟨b, 0, none⟩)) (h3 : a.tmps.getD 3 undef = u) (hd : a.defers = [])
    (h : InO W b x) (hx : OrfOk x) (hq : Q (.returned (.tuple #[.agg (orA x), u])) W) : bodyPost Try.prog Try.f36 Q Exit.ret a W := by
  refine bodyPost_ret (v := .tuple #[.agg (orA x), u]) ?_ hd hq
  rw [results_cell_tmp (fn := Try.f36) (p := 2) (q := 3) rfl a.tmps W b 58 (orA x) (0, 0) _ h2 h Try.underlying58 rfl (infoO hx), h3]
theorem decO_long {b : List Int} (hb : Byt b) (h : ¬ b.length < 64) : decO b = if rightO (rdO b) = true ∧ frmO (rdO b) = b then (rdO b, 0) else (orZ, 5) := by
  unfold decO
  rw [if_neg h]
  by_cases h2 : 64 < b.length
  · rw [if_pos h2, if_neg]
    rintro ⟨_, h3⟩
    have := congrArg List.length h3
    rw [frmO_len (rdO_ok hb (by omega))] at this
    omega
  · rw [if_neg h2]
theorem IsG.of_byt {xs : List Int} (h : Byt xs) (hl : xs.length = 16) : IsG xs := ⟨hl, fun j => (getD_byt h j).1, fun j => (getD_byt h j).2⟩
theorem part16_isG {b : List Int} (hb : Byt b) {a q : Nat} (h : a + q ≤ b.length) (hq : q ≤ 16) : IsG (part16 b a q) :=
  IsG.of_byt ((hb.part a q).app (fun x hx => by rw [List.eq_of_mem_replicate hx]; decide)) (part16_len h hq)
theorem orP_ok {b : List Int} (hb : Byt b) (h : 64 ≤ b.length) {k l : Nat} (hk : k ≤ 16) (hl : l ≤ 16) : OrfOk (orP b k l) := by
  have h1 := rdO_ok hb h
  exact ⟨h1.fl0, h1.fl1, h1.rf0, h1.rf1, h1.ox0, h1.ox1, h1.oi0, h1.oi1, part16_isG hb (by omega) hk, part16_isG hb (by omega) hl⟩
def RdS (w : World) (b : List Int) (bb oo : Nat) (W : World) : Prop := InO W w.heap.size orZ ∧ Bs W W.heap.size (some ⟨bb, oo, none⟩) b ∧ Below w.heap.size w W
set_option maxRecDepth 100000 in
theorem RdS.call {w W W' : World} {b : List Int} {bb oo : Nat} (h : RdS w b bb oo W) (hB : Below W.heap.size W W') : RdS w b bb oo W' := ⟨h.1.below hB, (h.2.1.below hB).mono hB.size, below_on h.2.2 hB⟩
theorem Bs.sub {w : World} {B b o : Nat} {xs : List Int} (h : Bs w B (Option.some ⟨b, o, none⟩) xs) (i n : Nat) : Bs w B (Option.some ⟨b, o + i, none⟩) ((xs.drop i).take n) := (h.drop i).take n
set_option maxRecDepth 100000 in
set_option maxHeartbeats 4000000 in
theorem refDecode_any (w : World) (ad : Option Addr) (cap n : Nat) (b : List Int) (hb : Bs w w.heap.size ad b) (hn : n = b.length) (hby : Byt b) (hc : n ≤ cap) (hl : n ≤ 140737488351232) : Calls Try.prog 36 #[.slice ad n cap] w (DecPost w b) := by
  obtain ⟨w1, hw1⟩ : ∃ w1, w1 = w.alloc (.cells (orA orZ) 58) := ⟨_, rfl⟩
  have hz : InO w1 w.heap.size orZ := by rw [hw1]; exact heap_alloc_new _ _
  have hB : Below w.heap.size w w1 := by rw [hw1]; exact (Below.refl _ _).alloc (Nat.le_refl _) _
  have HZ := hid hz
  have HB := hid hB
  have HW1 := hid hw1
  have HIZ := hid (infoO orZ_ok)
  clear hz hB hw1
  by_cases h1 : n < 64
  · have hd : decide ((n : Int) < 64) = true := by simp; omega
    have HE : RowKit.Hid (decO b = (orZ, 6)) := hid (by unfold decO; rw [if_pos (by omega)])
    unfold DecPost
    rw [HE.out]
    clear HE hb hn hby hl hc
    go_enter Try.func36, Try.ntmps36
    go_upto_region 1 with (fail)
    change Code.wp _ _ _ _ (w.alloc (.cells (orA orZ) 58))
    rw [← HW1.out]
    clear HW1
    go_wp2_with (first | ((with_reducible refine at_op ⟨none, .store 58 (.tmp 2) (.tmp 9), _, _, _, _⟩ ?_); refine wpList_store_row rfl 58 _ _ rfl w.heap.size (orA orZ) rfl rfl 58 (orA orZ) HZ.out HIZ.out rfl (orA_one _) ?_))
    refine rdec_ret rfl rfl rfl (setRow_heap _ _ _ _ _ _ HZ.out) orZ_ok ⟨rfl, below_setRow HB.out _ _ (Nat.le_refl _)⟩
  · have hd : decide ((n : Int) < 64) = false := by simp; omega
    have HE := hid (decO_long hby (by omega))
    obtain ⟨bb, oo, rfl, hbb⟩ := hb.some (by omega)
    have hs : RdS w b bb oo w1 := ⟨HZ.out, (hb.below HB.out).mono (by have := HB.out.size; omega), HB.out⟩
    have HS := hid hs
    have HX := hid (rdO_ok hby (by omega))
    have HBY := hid hby
    have HN := hid hn
    have hn64 : 64 ≤ n := by omega
    have C1 : ∀ W, RdS w b bb oo W → Calls Try.prog 55 #[.slice (some ⟨bb, oo + 4, none⟩) 4 (cap - 4)] W fun e W' => e = .returned (.int .u64 (valL ((b.drop 4).take 4))) ∧ Below W.heap.size W W' := fun W hS =>
      (refnum_any W bb (oo + 4) (cap - 4) 4 _ (by simp; omega) (hS.2.1.sub 4 4) (hby.part 4 4) (by omega)).mono fun _ _ hh => ⟨hh.1, by rw [← hh.2]; exact Below.refl _ _⟩
    have C2 : ∀ W, RdS w b bb oo W → Calls Try.prog 55 #[.slice (some ⟨bb, oo + 8, none⟩) 4 (cap - 8)] W fun e W' => e = .returned (.int .u64 (valL ((b.drop 8).take 4))) ∧ Below W.heap.size W W' := fun W hS =>
      (refnum_any W bb (oo + 8) (cap - 8) 4 _ (by simp; omega) (hS.2.1.sub 8 4) (hby.part 8 4) (by omega)).mono fun _ _ hh => ⟨hh.1, by rw [← hh.2]; exact Below.refl _ _⟩
    have C3 : ∀ W, RdS w b bb oo W → Calls Try.prog 55 #[.slice (some ⟨bb, oo + 16, none⟩) 8 (cap - 16)] W fun e W' => e = .returned (.int .u64 (valL ((b.drop 16).take 8))) ∧ Below W.heap.size W W' := fun W hS =>
      (refnum_any W bb (oo + 16) (cap - 16) 8 _ (by simp; omega) (hS.2.1.sub 16 8) (hby.part 16 8) (by omega)).mono fun _ _ hh => ⟨hh.1, by rw [← hh.2]; exact Below.refl _ _⟩
    have C4 : ∀ W, RdS w b bb oo W → Calls Try.prog 55 #[.slice (some ⟨bb, oo + 24, none⟩) 8 (cap - 24)] W fun e W' => e = .returned (.int .u64 (valL ((b.drop 24).take 8))) ∧ Below W.heap.size W W' := fun W hS =>
      (refnum_any W bb (oo + 24) (cap - 24) 8 _ (by simp; omega) (hS.2.1.sub 24 8) (hby.part 24 8) (by omega)).mono fun _ _ hh => ⟨hh.1, by rw [← hh.2]; exact Below.refl _ _⟩
    have hf4 := HX.out.fl1
    have hf4' := HX.out.fl0
    have hf8 := HX.out.rf1
    have hf8' := HX.out.rf0
    have hw4 : IntKind.u32.wrap (valL ((b.drop 4).take 4)) = valL ((b.drop 4).take 4) := IntWalk.u32_in _ ⟨hf4', hf4⟩
    have hw8 : IntKind.u32.wrap (valL ((b.drop 8).take 4)) = valL ((b.drop 8).take 4) := IntWalk.u32_in _ ⟨hf8', hf8⟩
    have HC1 := hid C1
    have HC2 := hid C2
    have HC3 := hid C3
    have HC4 := hid C4
    have hP0 : RowKit.Hid (orP b 0 0 = ⟨valL ((b.drop 4).take 4), valL ((b.drop 8).take 4), valL ((b.drop 16).take 8), valL ((b.drop 24).take 8), List.replicate 16 0, List.replicate 16 0⟩) := hid (by simp [orP, part16])
    clear hb hn hby h1 hs C1 C2 C3 C4 hf4 hf4' hf8 hf8' HZ HB
    obtain ⟨v4, hv4⟩ : ∃ v, v = valL ((b.drop 4).take 4) := ⟨_, rfl⟩
    obtain ⟨v8, hv8⟩ : ∃ v, v = valL ((b.drop 8).take 4) := ⟨_, rfl⟩
    obtain ⟨v16, hv16⟩ : ∃ v, v = valL ((b.drop 16).take 8) := ⟨_, rfl⟩
    obtain ⟨v24, hv24⟩ : ∃ v, v = valL ((b.drop 24).take 8) := ⟨_, rfl⟩
    simp only [← hv4, ← hv8, ← hv16, ← hv24] at HC1 HC2 HC3 HC4 hP0 hw4 hw8
    clear hv4 hv8 hv16 hv24
    go_enter Try.func36, Try.ntmps36
    go_upto_region 3 with (fail)
    change Code.wp _ _ _ _ (w.alloc (.cells (orA orZ) 58))
    rw [← HW1.out]
    clear HW1
    refine A.wp_region_new' 15 _ _ rfl (RdS w b bb oo) (fun g W => InO W g orZ ∧ w.heap.size < g) (by kernel_rfl) (by kernel_rfl) rfl rfl ⟨HS.out.1, ⟨HS.out.2.1.some, HS.out.2.1.cells⟩, HS.out.2.2.drew⟩ ?hT ?hal ?_
    case hT => exact fun g W W' hh hF => ⟨hh.1.fr hF (fun h => h), hh.2⟩
    case hal =>
      intro a W hS
      refine ⟨W.alloc (.cells (orA orZ) 58), ?_, hS.call ((Below.refl _ _).alloc (Nat.le_refl _) _), heap_alloc_new _ _, hS.1.lt⟩
      go_simp
      rfl
    have hcap : 64 ≤ cap := by omega
    simp only [List.take_succ_cons, List.take_zero]
    repeat (first
      | ((with_reducible refine A.atS ⟨some 11, _, _, _, _, _⟩ ?_); refine A.wpSure_value (.slice (some ⟨bb, oo + 4, none⟩) 4 (cap - 4)) rfl (fun W => exec_cut (lo := 4) (hi := 8) rfl rfl rfl rfl (by omega) (by omega) (by omega)) ?_; simp only [Act.put, List.setIfInBounds_toArray, List.set_cons_zero, List.set_cons_succ])
      | ((with_reducible refine A.atS ⟨some 15, _, _, _, _, _⟩ ?_); refine A.wpSure_value (.slice (some ⟨bb, oo + 8, none⟩) 4 (cap - 8)) rfl (fun W => exec_cut (lo := 8) (hi := 12) rfl rfl rfl rfl (by omega) (by omega) (by omega)) ?_; simp only [Act.put, List.setIfInBounds_toArray, List.set_cons_zero, List.set_cons_succ])
      | ((with_reducible refine A.atS ⟨some 19, _, _, _, _, _⟩ ?_); refine A.wpSure_value (.slice (some ⟨bb, oo + 16, none⟩) 8 (cap - 16)) rfl (fun W => exec_cut (lo := 16) (hi := 24) rfl rfl rfl rfl (by omega) (by omega) (by omega)) ?_; simp only [Act.put, List.setIfInBounds_toArray, List.set_cons_zero, List.set_cons_succ])
      | ((with_reducible refine A.atS ⟨some 22, _, _, _, _, _⟩ ?_); refine A.wpSure_value (.slice (some ⟨bb, oo + 24, none⟩) 8 (cap - 24)) rfl (fun W => exec_cut (lo := 24) (hi := 32) rfl rfl rfl rfl (by omega) (by omega) (by omega)) ?_; simp only [Act.put, List.setIfInBounds_toArray, List.set_cons_zero, List.set_cons_succ])
      | ((with_reducible refine A.atS ⟨some 12, _, _, _, _, _⟩ ?_); refine A.wpSure_call _ _ _ rfl ?_ (fun W hS => HC1.out W hS) (fun W W' hS hB => hS.call hB) ?_; (solve | (intro W; go_simp)); simp only [Act.put, List.setIfInBounds_toArray, List.set_cons_zero, List.set_cons_succ])
      | ((with_reducible refine A.atS ⟨some 16, _, _, _, _, _⟩ ?_); refine A.wpSure_call _ _ _ rfl ?_ (fun W hS => HC2.out W hS) (fun W W' hS hB => hS.call hB) ?_; (solve | (intro W; go_simp)); simp only [Act.put, List.setIfInBounds_toArray, List.set_cons_zero, List.set_cons_succ])
      | ((with_reducible refine A.atS ⟨some 20, _, _, _, _, _⟩ ?_); refine A.wpSure_call _ _ _ rfl ?_ (fun W hS => HC3.out W hS) (fun W W' hS hB => hS.call hB) ?_; (solve | (intro W; go_simp)); simp only [Act.put, List.setIfInBounds_toArray, List.set_cons_zero, List.set_cons_succ])
      | ((with_reducible refine A.atS ⟨some 23, _, _, _, _, _⟩ ?_); refine A.wpSure_call _ _ _ rfl ?_ (fun W hS => HC4.out W hS) (fun W W' hS hB => hS.call hB) ?_; (solve | (intro W; go_simp)); simp only [Act.put, List.setIfInBounds_toArray, List.set_cons_zero, List.set_cons_succ])
      | ((with_reducible refine A.atS ⟨some 24, _, _, _, _, _⟩ ?_); refine A.wpSure_value (.agg (orA (orP b 0 0))) rfl (fun W => by rw [hP0.out]; exact exec_build4 rfl rfl rfl rfl rfl) ?_; simp only [Act.put, List.setIfInBounds_toArray, List.set_cons_zero, List.set_cons_succ])
      | (refine' A.wpSure_value _ rfl _ _; rotate_left; (solve | (intro W; go_simp) | (intro W; go_simp; with_reducible rfl)); simp only [Act.put, List.setIfInBounds_toArray, List.set_cons_zero, List.set_cons_succ]))
    refine A.wpSure_end ?_
    intro g W hS hg
    obtain ⟨hgi, hgl⟩ := hg
    have hok0 : OrfOk (orP b 0 0) := orP_ok HBY.out (by rw [← HN.out]; exact hn64) (by omega) (by omega)
    obtain ⟨W2, hW2⟩ : ∃ W2, W2 = W.setRow g (orA (orP b 0 0)) := ⟨_, rfl⟩
    have hg2 : InO W2 g (orP b 0 0) := by rw [hW2]; exact setRow_heap _ _ _ _ _ _ hgi
    have hf2 : Fr (fun j => j = g) W W2 := by rw [hW2]; exact Fr.of_setRow _ _ _
    have hS2 : RdS w b bb oo W2 := ⟨hS.1.fr hf2 (by omega), hS.2.1.fr hf2 (fun b' o' he => by cases he; omega), hS.2.2.trans (hf2.below hS.2.2.size (fun k hk => by omega))⟩
    refine wpList_store_row rfl 58 _ _ rfl g (orA (orP b 0 0)) rfl rfl 58 (orA orZ) hgi (infoO hok0) (by rw [orA_size hok0, orA_size orZ_ok]) (orA_one _) ?_
    rw [← hW2]
    have HST : RowKit.Hid (RdS w b bb oo W2 ∧ InO W2 g (orP b 0 0)) := hid ⟨hS2, hg2⟩
    clear hW2 hg2 hf2 hS2 hS hgi hok0 HC1 HC2 HC3 HC4 hP0 hw4 hw8 HS W
    simp only [Act.put]
    go_wp2
    go_loopw [5] (fun i wr => ∃ k : Nat, k ≤ 16 ∧ i = .int .i64 k ∧ RowKit.Hid (RdS w b bb oo wr ∧ InO wr g (orP b k k))) (fun i _ => 16 - (intOf i).toNat)
    case atStart => exact ⟨0, by omega, rfl, HST⟩
    case round =>
      clear HST
      obtain ⟨k, hk, rfl, HR⟩ := hrel
      by_cases hk16 : k < 16
      · obtain ⟨m, hm⟩ : ∃ m, m = 32 + k := ⟨_, rfl⟩
        obtain ⟨l, hl2⟩ : ∃ l, l = 48 + k := ⟨_, rfl⟩
        have hwm : IntKind.i64.wrap (32 + (k : Int)) = (m : Int) := by rw [IntWalk.i64_in _ (by omega)]; omega
        have hwl : IntKind.i64.wrap (48 + (k : Int)) = (l : Int) := by rw [IntWalk.i64_in _ (by omega)]; omega
        have hmn : m < n := by omega
        have hln : l < n := by omega
        have hcm := HR.out.1.2.1.cell (j := m) (by rw [← HN.out]; exact hmn)
        have hcl := HR.out.1.2.1.cell (j := l) (by rw [← HN.out]; exact hln)
        have hp1 := part16_len (f := b) (a := 32) (q := k) (by rw [← HN.out]; omega) (by omega)
        have hp2 := part16_len (f := b) (a := 48) (q := k) (by rw [← HN.out]; omega) (by omega)
        have hs1 := part16_set (f := b) (a := 32) (q := k) (by rw [← HN.out]; omega) hk16
        have hs2 := part16_set (f := b) (a := 48) (q := k) (by rw [← HN.out]; omega) hk16
        rw [← hm] at hs1
        rw [← hl2] at hs2
        have hc1 := (HR.out.2.cell (4 + k)).trans (orc_ip_at (by show k < (part16 b 32 k).length; rw [hp1]; exact hk16))
        have hz1 := frozen_of_row wr g (4 + k) _ 58 HR.out.2
        generalize b.getD m 0 = x1 at *
        generalize b.getD l 0 = x2 at *
        have HM := hid hm
        have HL2 := hid hl2
        have HS1 := hid hs1
        have HS2 := hid hs2
        have HP1 := hid hp1
        have HP2 := hid hp2
        clear hm hl2 hs1 hs2 hp1 hp2
        have HCL := hid hcl
        clear hcl
        go_upto_region 8 with (fail)
        obtain ⟨W3, hW3⟩ : ∃ W3, W3 = wr.setCell ⟨g, 4 + k, none⟩ (.int .u8 x1) := ⟨_, rfl⟩
        have hg3 : InO W3 g (orP b (k + 1) k) := by
          have := HR.out.2.set_ip k x1 (by show k < (part16 b 32 k).length; rw [HP1.out]; exact hk16)
          rw [hW3]
          have e : ({ orP b k k with ip := (orP b k k).ip.set k x1 } : Orf) = orP b (k + 1) k := by
            show (⟨_, _, _, _, (part16 b 32 k).set k x1, _⟩ : Orf) = _
            rw [HS1.out]; rfl
          rw [← e]; exact this
        have hf3 : Fr (fun j => j = g) wr W3 := by rw [hW3]; exact (Fr.refl _ wr).setCell _ _ (fun _ => rfl)
        have hS3 : RdS w b bb oo W3 := ⟨HR.out.1.1.fr hf3 (by omega), HR.out.1.2.1.fr hf3 (fun b' o' he => by cases he; omega), HR.out.1.2.2.trans (hf3.below HR.out.1.2.2.size (fun k hk => by omega))⟩
        have hcl3 : W3.cell? ⟨bb, oo + l, none⟩ = some (.int .u8 x2) := by
          rw [World.cell?_of_block (w := wr) (hf3.block bb (by have := HR.out.1.2.2.size; omega) (by omega))]; exact HCL.out
        have hp3 : (part16 b 32 (k + 1)).length = 16 := by rw [← HS1.out, List.length_set]; exact HP1.out
        have hc3 := (hg3.cell (20 + k)).trans (orc_ii_at hp3 (by show k < (part16 b 48 k).length; rw [HP2.out]; exact hk16))
        have hz3 := frozen_of_row W3 g (20 + k) _ 58 hg3
        rw [← hW3]
        have HG3 := hid hg3
        have HS3 := hid hS3
        have HP3 := hid hp3
        clear hW3 hg3 hf3 hS3 hc1 hz1 hcm HR hp3 HCL HS1 HP1
        go_wp2
        go_roundw
        case rel =>
          refine ⟨k + 1, by omega, by go_num, hid ⟨?_, ?_⟩⟩
          · have hf4 : Fr (fun j => j = g) W3 (W3.setCell ⟨g, 20 + k, none⟩ (.int .u8 x2)) := (Fr.refl _ W3).setCell _ _ (fun _ => rfl)
            exact ⟨HS3.out.1.fr hf4 (by omega), HS3.out.2.1.fr hf4 (fun b' o' he => by cases he; omega), HS3.out.2.2.trans (hf4.below HS3.out.2.2.size (fun k hk => by omega))⟩
          · have := HG3.out.set_ii k x2 HP3.out
            have e : ({ orP b (k + 1) k with ii := (orP b (k + 1) k).ii.set k x2 } : Orf) = orP b (k + 1) (k + 1) := by
              show (⟨_, _, _, _, _, (part16 b 48 k).set k x2⟩ : Orf) = _
              rw [HS2.out]; rfl
            rw [← e]; exact this
        case measure => simp [intOf]; omega
      · obtain rfl : k = 16 := by omega
        have hg3 := HR.out.2
        rw [orP_all] at hg3
        have hS3 := HR.out.1
        obtain ⟨x, hx⟩ : ∃ x, x = rdO b := ⟨_, rfl⟩
        rw [← hx] at hg3 HX HE
        have HG3 := hid hg3
        have HS3 := hid hS3
        have CR := hid (fun W => Right_any x W)
        clear hg3 hS3 HR hx hk16
        cases hr : rightO x with
        | false =>
          rw [hr] at CR HE
          have HE2 : RowKit.Hid (decO b = (orZ, 5)) := hid (by rw [HE.out]; simp)
          clear HE hr
          go_wp2_with (first | ((with_reducible refine at_op ⟨some 45, _, _, _, _, _⟩ ?_); refine wpList_runW rfl (.agg (orA x)) (load_o rfl rfl HG3.out HX.out) ?_) | fail)
          refine (CR.out _).mono ?_
          rintro e w6 ⟨rfl, hb6⟩
          have HS6 := hid (HS3.out.call hb6)
          clear hb6 HS3 HG3
          go_wp2_with (first | ((with_reducible refine at_op ⟨none, .store 58 (.tmp 2) (.tmp 55), _, _, _, _⟩ ?_); refine wpList_store_row rfl 58 _ _ rfl w.heap.size (orA orZ) rfl rfl 58 (orA orZ) HS6.out.1 HIZ.out rfl (orA_one _) ?_))
          refine rdec_ret (u := .int .i64 5) rfl rfl rfl (setRow_heap _ _ _ _ _ _ HS6.out.1) orZ_ok ⟨by rw [HE2.out], below_setRow HS6.out.2.2 _ _ (Nat.le_refl _)⟩
        | true =>
          rw [hr] at CR HE
          clear hr
          go_wp2_with (first | ((with_reducible refine at_op ⟨some 45, _, _, _, _, _⟩ ?_); refine wpList_runW rfl (.agg (orA x)) (load_o rfl rfl HG3.out HX.out) ?_) | fail)
          refine (CR.out _).mono ?_
          rintro e w6 ⟨rfl, hb6⟩
          have HS6 := hid (HS3.out.call hb6)
          have HG6 := hid (HG3.out.below hb6)
          clear hb6 HS3 HG3
          go_wp2_with (first | ((with_reducible refine at_op ⟨some 49, _, _, _, _, _⟩ ?_); refine wpList_runW rfl (.agg (orA x)) (load_o rfl rfl HG6.out HX.out) ?_) | fail)
          refine (refEncode_any x HX.out w6 none 0 0 [] (Bs.nil _ _ _) rfl (fun _ => ⟨rfl, rfl⟩) rfl (by omega)).mono ?_
          rintro e w7 ⟨v7, rfl, hown, hb7⟩
          rw [List.nil_append] at hown
          have hl64 := frmO_len HX.out
          rw [hl64] at hown
          obtain ⟨a7, c7, rfl⟩ := own_form hown
          have hS7 := HS6.out.call hb7
          have HSB := hid (SameBytes_any w7 a7 (some ⟨bb, oo, none⟩) c7 cap 64 n (frmO x) b hl64.symm HN.out (own_bs hown) hS7.2.1 (by omega) hl)
          have HS7 := hid hS7
          have HG7 := hid (HG6.out.below hb7)
          clear hown hb7 hS7 HS6 HG6 hl64
          go_wp2_with fail
          refine HSB.out.mono ?_
          rintro e w8 ⟨rfl, hb8⟩
          have HS8 := hid (HS7.out.call hb8)
          have HG8 := hid (HG7.out.below hb8)
          clear hb8 HSB HS7 HG7
          by_cases hfb : frmO x = b
          · have hbq : (frmO x == b) = true := by simpa using hfb
            rw [hbq]
            have HE2 : RowKit.Hid (decO b = (x, 0)) := hid (by rw [HE.out]; simp [hfb])
            have HSO := hid (show (orA orZ).size = (orA x).size by rw [orA_size HX.out, orA_size orZ_ok])
            have HIX := hid (infoO HX.out)
            clear HE hfb hbq
            go_wp2_with (first
              | ((with_reducible refine at_op ⟨some 56, _, _, _, _, _⟩ ?_); refine wpList_runW rfl (.agg (orA x)) (load_o rfl rfl HG8.out HX.out) ?_)
              | ((with_reducible refine at_op ⟨none, .store 58 (.tmp 2) (.tmp 56), _, _, _, _⟩ ?_); refine wpList_store_row rfl 58 _ _ rfl w.heap.size (orA x) rfl rfl 58 (orA orZ) HS8.out.1 HIX.out HSO.out (orA_one _) ?_))
            refine rdec_ret (u := .int .i64 0) rfl rfl rfl (setRow_heap _ _ _ _ _ _ HS8.out.1) HX.out ⟨by rw [HE2.out], below_setRow HS8.out.2.2 _ _ (Nat.le_refl _)⟩
          · have hbq : (frmO x == b) = false := by simpa using hfb
            rw [hbq]
            have HE2 : RowKit.Hid (decO b = (orZ, 5)) := hid (by rw [HE.out]; simp [hfb])
            clear HE hfb hbq
            go_wp2_with (first | ((with_reducible refine at_op ⟨none, .store 58 (.tmp 2) (.tmp 55), _, _, _, _⟩ ?_); refine wpList_store_row rfl 58 _ _ rfl w.heap.size (orA orZ) rfl rfl 58 (orA orZ) HS8.out.1 HIZ.out rfl (orA_one _) ?_))
            refine rdec_ret (u := .int .i64 5) rfl rfl rfl (setRow_heap _ _ _ _ _ _ HS8.out.1) orZ_ok ⟨by rw [HE2.out], below_setRow HS8.out.2.2 _ _ (Nat.le_refl _)⟩
end Go.Proofs.Ytceeipejhmnkfaa
