/-
  Objrefs as bytes: the form, layGuid, lay, Encode.
-/
import Derived.Test.YtceeipejhmnkfaaObA
import Derived.Test.YtceeipejhmnkfaaWrY
import Derived.Test.YtceeipejhmnkfaaWrW
import Derived.Test.YtceeipejhmnkfaaMixC
import Derived.Deep.Cut
namespace Go.Proofs.Ytceeipejhmnkfaa
open Go Go.ChangeShapes Go.WideShapes Go.ChangeAt Go.RowKit

/-- The form of an Objref. -/
def frmO (x : Orf) : List Int := byt 1464812877 4 ++ byt x.fl 4 ++ byt x.rf 4 ++ byt 0 4 ++ byt x.ox 8 ++ byt x.oi 8 ++ x.ip ++ x.ii
set_option maxRecDepth 100000 in
theorem frmO_len {x : Orf} (h : OrfOk x) : (frmO x).length = 64 := by simp [frmO, byt_len, h.ip.len, h.ii.len]
theorem IsG.byt {xs : List Int} (h : IsG xs) : Byt xs := fun x hx => by
  obtain ⟨i, hi⟩ := List.mem_iff_getElem?.1 hx
  have h1 := h.lo i
  have h2 := h.hi i
  rw [List.getD_eq_getElem?_getD, hi, Option.getD_some] at h1 h2
  exact ⟨h1, h2⟩
theorem Byt.app {xs ys : List Int} (h : Byt xs) (k : Byt ys) : Byt (xs ++ ys) := fun x hx => by
  rcases List.mem_append.1 hx with h1 | h1
  · exact h x h1
  · exact k x h1
theorem frmO_byt {x : Orf} (h : OrfOk x) : Byt (frmO x) :=
  ((((((((byt_ok _ _).app (byt_ok _ _)).app (byt_ok _ _)).app (byt_ok _ _)).app (byt_ok _ _)).app (byt_ok _ _)).app h.ip.byt).app h.ii.byt)
set_option maxRecDepth 100000 in
theorem lay_al {xs : List Int} {n : Int} {k : Nat} (h : xs.length % k = 0) : lay xs n k = xs ++ byt n k := by
  have : gap xs.length k = 0 := by unfold gap; rw [h]; simp
  unfold lay; rw [this]; simp
set_option maxRecDepth 100000 in
theorem byt_one {n : Int} (h0 : 0 ≤ n) (h1 : n ≤ 255) : byt n 1 = [n] := by
  simp [byt]; omega
set_option maxRecDepth 100000 in
theorem numOk_yes {n : Int} {k : Nat} (hk : Siz k) (h : n < 256 ^ k) : numOk n k = true := by rw [numOk_nat hk]; simpa using h
set_option maxRecDepth 100000 in
/-- Num, of a number that has room, at a place that needs no gap. -/
theorem Num_al (w : World) (p : Nat) (v : Value) (xs : List Int) (n : Int) (k : Nat) (h : WrW w p v xs) (hk : Siz k) (ha : xs.length % k = 0) (h0 : 0 ≤ n) (h1 : n < 256 ^ k) (hl : xs.length ≤ 100000000000000) :
    Calls Try.prog 38 #[.pointer (some ⟨p, 0, none⟩), .int .u64 n, .int .i64 k] w (LayPost w p v (xs ++ byt n k) (.returned (.int .i64 0))) := by
  refine (Num_any w p v xs n k h h0 hl).mono fun e w' hp => ?_
  unfold NumPost at hp
  rw [numOk_yes hk h1, Int.toNat_natCast, lay_al ha] at hp
  exact hp

set_option maxRecDepth 100000 in
theorem szForm : (Try.prog.info? 107).map (·.size) = some 64 := by kernel_rfl
set_option maxRecDepth 100000 in
set_option maxHeartbeats 1000000 in
/-- layGuid: sixteen bytes, one by one. -/
theorem layGuid_any (w : World) (p : Nat) (v : Value) (xs g : List Int) (h : WrW w p v xs) (hg : IsG g) (hl : xs.length ≤ 1000000) :
    Calls Try.prog 84 #[.pointer (some ⟨p, 0, none⟩), .agg (u8s g)] w (LayPost w p v (xs ++ g) (.returned (.tuple #[]))) := by
  have hi : (Try.prog.info? 24).map (·.size) = some (u8s g).size := by rw [u8s_size, hg.len]; exact infoG
  have Hi := hid hi
  have HG := hid hg
  have hp := h.lt
  have h2 : WrTo w p v (w.alloc (.cells (u8s g) 24)) v xs := by
    refine ⟨h.fr (fp := fun _ => False) (frA w _) (fun h => h) (fun _ _ h => h), (frA w _).mono (fun _ h => h.elim), fun _ h => .inl h⟩
  have H2 := hid h2
  clear hi hg h h2
  go_enter Try.func84, Try.ntmps84
  go_wp2_with (refine wpList_load_row rfl 24 _ rfl w.heap.size rfl 24 (u8s g) (0,0) _ (heap_alloc_new _ _) Try.underlying24 rfl Hi.out ?_)
  go_loopw [5, 7] (fun _ n wr => ∃ q : Nat, q ≤ 16 ∧ n = .int .i64 q ∧ RowKit.Hid (∃ v', WrTo w p v wr v' (xs ++ g.take q))) (fun _ n _ => 16 - (intOf n).toNat)
  case atStart => exact ⟨0, by omega, rfl, hid ⟨v, by simpa using H2.out⟩⟩
  case round =>
    obtain ⟨q, hq, rfl, HR⟩ := hrel
    obtain ⟨v', ht⟩ := HR.out
    have HT := hid ht
    clear HR ht H2
    by_cases hlt : q < 16
    · have hix := fun w => run_index_u8s (P := Try.prog) w 24 5 16 g q Try.underlying24 szB agB HG.out.len hlt
      have hb0 := HG.out.lo q
      have hb1 := HG.out.hi q
      have hx : g[q]? = some (g.getD q 0) := getD_at (by rw [HG.out.len]; exact hlt)
      generalize g.getD q 0 = b at *
      have hlen : (xs ++ g.take q).length ≤ 100000000000000 := by simp; omega
      have HN := hid (Num_al wr p v' (xs ++ g.take q) b 1 HT.out.wr (.inl rfl) (by omega) hb0 (by omega) hlen)
      rw [byt_one hb0 hb1] at HN
      have HX := hid hx
      clear hx hlen
      have hwb : IntKind.u64.wrap b = b := IntWalk.u64_in _ ⟨by omega, by omega⟩
      go_wp2_with fail
      refine HN.out.mono ?_
      rintro e w2 ⟨rfl, v2, h2⟩
      have h3 := HT.out.trans h2
      have e3 : xs ++ g.take q ++ [b] = xs ++ g.take (q + 1) := by rw [List.take_add_one, HX.out, List.append_assoc]; rfl
      rw [e3] at h3
      have HP := hid h3
      clear h2 h3 e3 HN HT hwb
      go_wp2
      go_roundw
      case rel => exact ⟨q + 1, by omega, by go_num, hid ⟨_, HP.out⟩⟩
      case measure => simp [intOf]; omega
    · obtain rfl : q = 16 := by omega
      have h1 := HT.out
      rw [List.take_of_length_le (by rw [HG.out.len]; omega)] at h1
      have HP := hid h1
      clear h1
      go_wp2
      refine bodyPost_end (results_none rfl _ _ _) rfl ?_
      exact ⟨rfl, _, HP.out⟩
/-- What lay has till now: its writer, x's box, the block of the result. -/
structure LSt (w : World) (x : Orf) (Z : Array Value) (xs : List Int) (W : World) : Prop where
  wr : ∃ v, WrW W (w.heap.size + 2) v xs ∧ ∀ j, v.ownBlock = some j → w.heap.size + 2 < j
  o : InO W w.heap.size x
  z : W.heap[w.heap.size + 1]? = some (.cells Z 107 (0, 0))
  b : Below w.heap.size w W
theorem LSt.call {w W : World} {x : Orf} {Z : Array Value} {xs : List Int} (h : LSt w x Z xs W) {f : FuncId} {args : Array Value} {ys : List Int} {r : Ending}
    (hc : ∀ v, WrW W (w.heap.size + 2) v xs → Calls Try.prog f args W (LayPost W (w.heap.size + 2) v ys r)) : Calls Try.prog f args W fun e W' => e = r ∧ LSt w x Z ys W' := by
  obtain ⟨v, hv, hj⟩ := h.wr
  refine (hc v hv).mono fun e W' ⟨he, v', ht⟩ => ⟨he, ⟨⟨v', ht.wr, fun j hj' => ?_⟩, ?_, ?_, ?_⟩⟩
  · rcases ht.own j hj' with h1 | h1
    · exact hj j h1
    · have := hv.lt; omega
  · refine h.o.fr ht.fr (fun e => ?_)
    rcases e with e | e
    · omega
    · have := hj _ e; omega
  · rw [ht.fr.block _ (lt_of_heap h.z) (fun e => by
      rcases e with e | e
      · omega
      · have := hj _ e; omega)]
    exact h.z
  · have h1 := ht.fr.below (B := w.heap.size) h.b.size (fun k hk => by
      rcases hk with rfl | hk
      · omega
      · have := hj _ hk; omega)
    exact h.b.trans h1
theorem LSt.num {w W : World} {x : Orf} {Z : Array Value} {xs : List Int} (h : LSt w x Z xs W) (n : Int) (k : Nat) (hk : Siz k) (ha : xs.length % k = 0) (h0 : 0 ≤ n) (h1 : n < 256 ^ k) (hl : xs.length ≤ 1000) :
    Calls Try.prog 38 #[.pointer (some ⟨w.heap.size + 2, 0, none⟩), .int .u64 n, .int .i64 k] W fun e W' => e = .returned (.int .i64 0) ∧ LSt w x Z (xs ++ byt n k) W' :=
  h.call fun v hv => Num_al W _ v xs n k hv hk ha h0 h1 (by omega)
theorem LSt.guid {w W : World} {x : Orf} {Z : Array Value} {xs g : List Int} (h : LSt w x Z xs W) (hg : IsG g) (hl : xs.length ≤ 1000) :
    Calls Try.prog 84 #[.pointer (some ⟨w.heap.size + 2, 0, none⟩), .agg (u8s g)] W fun e W' => e = .returned (.tuple #[]) ∧ LSt w x Z (xs ++ g) W' :=
  h.call fun v hv => layGuid_any W _ v xs g hv hg (by omega)
theorem results_cell1 {fn : Func} {p : Tmp} {ty : TypeId} (h : fn.results = #[.cell p ty]) (tmps : Array Value) (P : Program) (w : World) :
    (results fn tmps).run P w = ((asAddr (tmps.getD p undef)).run P w).andThen fun a w₁ => (loadVar ty a).run P w₁ := by
  simp only [results, h]
  simp [Sem.run_bind, Result.andThen]
set_option maxRecDepth 100000 in
/-- copy by its run. -/
theorem exec_copy {P : Program} {o : Oper} {f : Operand → Value} {d s : Operand} {dT sT : TypeId} {v1 v2 u : Value} {W W' : World} (ho : o.op = .call { callee := .builtin .copy, args := #[d, s], argTypes := #[dT, sT] }) (hd : f d = v1) (hs : f s = v2)
    (hr : (Builtin.copy_ #[dT, sT] o.type #[v1, v2]).run P W = .ok u W') : (execOp f o).run P W = .ok (.value u) W' := by
  unfold execOp
  simp only [ho, resolve, invoke, builtin, Sem.run_bind, Sem.run_pure, Result.andThen_ok, List.map_toArray, List.map_cons, List.map_nil, hd, hs, hr]
set_option maxRecDepth 100000 in
set_option maxHeartbeats 2000000 in
theorem lay_form (x : Orf) (hx : OrfOk x) (w : World) : Calls Try.prog 80 #[.agg (orA x)] w fun e w' => e = .returned (.agg (u8s (frmO x))) ∧ Below w.heap.size w w' := by
  have HN : Calls Try.prog 21 #[] ((w.alloc (.cells (orA x) 58)).alloc (.cells (u8s (List.replicate 64 0)) 107)) fun e W => e = .returned (.pointer (some ⟨w.heap.size + 2, 0, none⟩)) ∧ LSt w x (u8s (List.replicate 64 0)) [] W := by
    refine (NewWriter_any _).mono ?_
    rintro e W ⟨rfl, rfl⟩
    have hsz : ((w.alloc (.cells (orA x) 58)).alloc (.cells (u8s (List.replicate 64 0)) 107)).heap.size = w.heap.size + 2 := by simp
    refine ⟨by rw [hsz], ⟨⟨.slice none 0 0, ⟨?_, ⟨rfl, .inl ⟨rfl, rfl⟩⟩, fun h => by cases h⟩, fun j hj => by cases hj⟩, heap_alloc3_old _ _ _ _, heap_alloc3_mid _ _ _ _, (((Below.refl _ _).alloc (Nat.le_refl _) _).alloc (by simp) _).alloc (by simp; omega) _⟩⟩
    rw [← hsz]; exact heap_alloc_new _ _
  have HNN := hid HN
  have Hx := hid hx
  have p4 : (256 : Int) ^ 4 = 4294967296 := by decide
  have p8 : (256 : Int) ^ 8 = 18446744073709551616 := by decide
  have P4 := hid p4
  have P8 := hid p8
  clear hx HN p4 p8
  go_enter Try.func80, Try.ntmps80
  go_wp2_with fail
  refine HNN.out.mono ?_
  rintro e W0 ⟨rfl, hs⟩
  have HS := hid hs
  clear hs HNN
  go_wp2_with fail
  refine (HS.out.num 1464812877 4 (.inr (.inr (.inl rfl))) (by simp) (by decide) (by decide) (by simp)).mono ?_
  rintro e W1 ⟨rfl, hs⟩
  clear HS
  have HS := hid hs
  clear hs
  have a0 := HS.out.o.c0
  have hwr : IntKind.u64.wrap x.fl = x.fl := IntWalk.u64_in _ ⟨by have := Hx.out.fl0; omega, by have := Hx.out.fl1; omega⟩
  go_wp2_with fail
  refine (HS.out.num x.fl 4 (.inr (.inr (.inl rfl))) (by simp [byt_len]) (Hx.out.fl0) (by rw [P4.out]; have := Hx.out.fl1; omega) (by simp [byt_len])).mono ?_
  rintro e W2 ⟨rfl, hs⟩
  clear HS a0 hwr
  have HS := hid hs
  clear hs
  have a0 := HS.out.o.c1
  have hwr : IntKind.u64.wrap x.rf = x.rf := IntWalk.u64_in _ ⟨by have := Hx.out.rf0; omega, by have := Hx.out.rf1; omega⟩
  go_wp2_with fail
  refine (HS.out.num x.rf 4 (.inr (.inr (.inl rfl))) (by simp [byt_len]) (Hx.out.rf0) (by rw [P4.out]; have := Hx.out.rf1; omega) (by simp [byt_len])).mono ?_
  rintro e W3 ⟨rfl, hs⟩
  clear HS a0 hwr
  have HS := hid hs
  clear hs
  go_wp2_with fail
  refine (HS.out.num 0 4 (.inr (.inr (.inl rfl))) (by simp [byt_len]) (by decide) (by decide) (by simp [byt_len])).mono ?_
  rintro e W4 ⟨rfl, hs⟩
  clear HS
  have HS := hid hs
  clear hs
  have a0 := HS.out.o.c2
  go_wp2_with fail
  refine (HS.out.num x.ox 8 (.inr (.inr (.inr rfl))) (by simp [byt_len]) (Hx.out.ox0) (by rw [P8.out]; have := Hx.out.ox1; omega) (by simp [byt_len])).mono ?_
  rintro e W5 ⟨rfl, hs⟩
  clear HS a0
  have HS := hid hs
  clear hs
  have a0 := HS.out.o.c3
  go_wp2_with fail
  refine (HS.out.num x.oi 8 (.inr (.inr (.inr rfl))) (by simp [byt_len]) (Hx.out.oi0) (by rw [P8.out]; have := Hx.out.oi1; omega) (by simp [byt_len])).mono ?_
  rintro e W6 ⟨rfl, hs⟩
  clear HS a0
  have HS := hid hs
  clear hs
  go_wp2_with (first | ((with_reducible refine at_op ⟨some 30, _, _, _, _, _⟩ ?_); refine wpList_run rfl (.agg (u8s x.ip)) (load_g rfl rfl (HS.out.o.ip Hx.out.ip.len) Hx.out.ip.len) ?_) | fail)
  refine (HS.out.guid Hx.out.ip (by simp [byt_len])).mono ?_
  rintro e W7 ⟨rfl, hs⟩
  clear HS
  have HS := hid hs
  clear hs
  go_wp2_with (first | ((with_reducible refine at_op ⟨some 34, _, _, _, _, _⟩ ?_); refine wpList_run rfl (.agg (u8s x.ii)) (load_g rfl rfl (HS.out.o.ii Hx.out.ip.len) Hx.out.ii.len) ?_) | fail)
  refine (HS.out.guid Hx.out.ii (by simp [byt_len, Hx.out.ip.len])).mono ?_
  rintro e W8 ⟨rfl, hs⟩
  clear HS
  have HS := hid hs
  clear hs
  have hfr : RowKit.Hid ([] ++ byt 1464812877 4 ++ byt x.fl 4 ++ byt x.rf 4 ++ byt 0 4 ++ byt x.ox 8 ++ byt x.oi 8 ++ x.ip ++ x.ii = frmO x) := hid (by simp [frmO])
  rw [hfr.out] at HS
  have HFL := hid (frmO_len Hx.out)
  obtain ⟨fr, hfe⟩ : ∃ fr, fr = frmO x := ⟨_, rfl⟩
  rw [← hfe] at HS HFL
  have HFE := hid hfe
  clear hfr Hx P4 P8 hfe
  go_upto_region 11 with (fail)
  obtain ⟨v, hv, hj⟩ := HS.out.wr
  have hlt := hv.lt
  obtain ⟨F, hF⟩ : ∃ F, F = W8.heap.size := ⟨_, rfl⟩
  obtain ⟨WA, hWA⟩ : ∃ WA, WA = (W8.alloc (.cells (u8s (List.replicate 64 0)) 107)).drew := ⟨_, rfl⟩
  have hF2 : WA.heap[F]? = some (.cells (u8s (List.replicate 64 0)) 107 (0, 0)) := by rw [hWA, hF]; exact heap_alloc_new _ _
  have hv2 : WrW WA (w.heap.size + 2) v fr := by rw [hWA]; exact hv.fr (fp := fun _ => False) ((frA W8 _).drew) (fun h => h) (fun _ _ h => h)
  have hz2 : WA.heap[w.heap.size + 1]? = some (.cells (u8s (List.replicate 64 0)) 107 (0, 0)) := by
    rw [hWA]; exact (heap_alloc_old _ _ (lt_of_heap HS.out.z)).trans HS.out.z
  have hb2 : Below w.heap.size w WA := by rw [hWA]; exact (HS.out.b.alloc HS.out.b.size _).drew
  have hFs : w.heap.size + 2 < F := by rw [hF]; exact hlt
  have HBY := hid (Bytes_any WA (w.heap.size + 2) v fr hv2 (by rw [HFL.out]; omega))
  have HF2 := hid hF2
  have HZ2 := hid hz2
  have HB2 := hid hb2
  have HFF := hid hF
  clear hF2 hv2 hz2 hb2 hv hj hlt
  refine C.wp_region_mix [0, 0, 2, 3] (fun _ => True) (by kernel_rfl) (by kernel_rfl) trivial ?_
  rw [← hF]
  refine C.wpMix_value (.slice (some ⟨F, 0, none⟩) 64 64) rfl rfl (by intro W; go_simp) ?_
  simp only [Act.put, List.setIfInBounds_toArray, List.set_cons_zero, List.set_cons_succ]
  refine C.wpMix_value (.pointer (some ⟨w.heap.size + 2, 0, none⟩)) rfl rfl (by intro W; go_simp) ?_
  simp only [Act.put, List.setIfInBounds_toArray, List.set_cons_zero, List.set_cons_succ]
  have hWA' := hid hWA
  refine C.wpMix_call 25 #[.pointer (some ⟨w.heap.size + 2, 0, none⟩)] (by decide) rfl (by go_simp) ?_
  change Calls Try.prog 25 #[.pointer (some ⟨w.heap.size + 2, 0, none⟩)] ((W8.alloc (.cells (u8s (List.replicate 64 0)) 107)).drew) _
  rw [← hWA]
  refine HBY.out.mono ?_
  rintro e W10 ⟨vb, rfl, hown, hbel⟩
  refine ⟨_, rfl, fun _ => trivial, ?_⟩
  rw [HFL.out] at hown
  obtain ⟨g, cap, rfl, _, _⟩ := own_form1 hown (by omega)
  have hbs := own_bs hown
  have hF3 : W10.heap[F]? = some (.cells (u8s (List.replicate 64 0)) 107 (0, 0)) := by rw [hbel.block F (lt_of_heap HF2.out)]; exact HF2.out
  have hz3 : W10.heap[w.heap.size + 1]? = some (.cells (u8s (List.replicate 64 0)) 107 (0, 0)) := by rw [hbel.block _ (lt_of_heap HZ2.out)]; exact HZ2.out
  have hb3 : Below w.heap.size w W10 := HB2.out.trans (hbel.mono HB2.out.size)
  have hrun := run_copy_row Try.prog W10 30 30 3 5 F 0 64 64 ⟨g, 0, none⟩ 64 cap (u8s (List.replicate 64 0)) 107 (u8l fr) Try.underlying30 (by kernel_rfl) hF3 (by rw [u8l_len, HFL.out]; rfl) hbs.news (by rw [u8l_len, HFL.out]; simp [u8s_size]) (u8l_one fr)
  have hrow : (List.take 0 (u8s (List.replicate 64 0)).toList ++ u8l fr ++ List.drop (0 + (u8l fr).length) (u8s (List.replicate 64 0)).toList).toArray = u8s fr := by
    rw [u8l_len, HFL.out, List.drop_of_length_le (by simp [u8s])]
    simp [u8s, u8l]
  rw [hrow, u8l_len, HFL.out] at hrun
  simp only [Act.put, List.setIfInBounds_toArray, List.set_cons_zero, List.set_cons_succ]
  refine C.wpMix_write (goInt 64) (W10.setRow F (u8s fr)) (by decide) rfl (exec_copy rfl rfl rfl hrun) (fun h => by cases h) ?_
  simp only [Act.put, List.setIfInBounds_toArray, List.set_cons_zero, List.set_cons_succ]
  refine C.wpMix_end ?_
  obtain ⟨W11, hW11⟩ : ∃ W11, W11 = W10.setRow F (u8s fr) := ⟨_, rfl⟩
  have hF4 : W11.heap[F]? = some (.cells (u8s fr) 107 (0, 0)) := by rw [hW11]; exact setRow_heap _ _ _ _ _ _ hF3
  have hz4 : W11.heap[w.heap.size + 1]? = some (.cells (u8s (List.replicate 64 0)) 107 (0, 0)) := by rw [hW11, setRow_other _ _ _ _ (by omega)]; exact hz3
  have hb4 : Below w.heap.size w W11 := by rw [hW11]; exact below_setRow hb3 _ _ (by omega)
  rw [← hW11]
  have HF4 := hid hF4
  have HZ4 := hid hz4
  have HB4 := hid hb4
  clear hF4 hz4 hb4 hW11 hF3 hz3 hb3 hrun hrow hown hbs hbel HF2 HZ2 HB2 HBY HS hWA hWA' HFF hF
  go_wp2_with (first
    | ((with_reducible refine at_op ⟨some 40, _, _, _, _, _⟩ ?_); refine wpList_load_row rfl 107 _ rfl F rfl 107 (u8s fr) (0, 0) _ HF4.out Try.underlying107 rfl (by rw [u8s_size, HFL.out]; exact szForm) ?_)
    | ((with_reducible refine at_op ⟨none, .store 107 (.tmp 2) (.tmp 40), _, _, _, _⟩ ?_); refine wpList_store_row rfl 107 _ _ rfl (w.heap.size + 1) (u8s fr) rfl rfl 107 (u8s (List.replicate 64 0)) HZ4.out (by rw [u8s_size, HFL.out]; exact szForm) (by rw [u8s_size, u8s_size, HFL.out]; rfl) (u8s_one _) ?_))
  have hZ5 : (W11.setRow (w.heap.size + 1) (u8s fr)).heap[w.heap.size + 1]? = some (.cells (u8s fr) 107 (0, 0)) := setRow_heap _ _ _ _ _ _ HZ4.out
  refine bodyPost_ret (v := .agg (u8s fr)) ?_ rfl ⟨by rw [HFE.out], below_setRow HB4.out _ _ (by omega)⟩
  rw [results_cell1 (fn := Try.f80) rfl]
  simp only [Act.put, List.setIfInBounds_toArray, List.set_cons_zero, List.set_cons_succ]
  have hl := run_loadVar_row (P := Try.prog) _ (w.heap.size + 1) 107 107 (u8s fr) (0, 0) _ hZ5 Try.underlying107 rfl (by rw [u8s_size, HFL.out]; exact szForm)
  simp [asAddr, hl, Result.andThen]
/-- What Encode answers. -/
def EncPost (w : World) (x : Orf) (e : Ending) (w' : World) : Prop :=
  (rightO x = true ∧ (∃ g, e = .returned (.tuple #[.slice (some ⟨g, 0, none⟩) 64 64, .int .i64 0]) ∧ w'.heap[g]? = some (.cells (u8s (frmO x)) 107 (0, 0)) ∧ w.heap.size ≤ g) ∧ Below w.heap.size w w') ∨
  (rightO x = false ∧ e = .returned (.tuple #[.slice none 0 0, .int .i64 5]) ∧ Below w.heap.size w w')
set_option maxRecDepth 100000 in
set_option maxHeartbeats 1000000 in
theorem Encode_any (x : Orf) (hx : OrfOk x) (w : World) : Calls Try.prog 59 #[.agg (orA x)] w (EncPost w x) := by
  have ho : InO (w.alloc (.cells (orA x) 58)) w.heap.size x := heap_alloc_new _ _
  have hB : Below w.heap.size w (w.alloc (.cells (orA x) 58)) := (Below.refl _ _).alloc (Nat.le_refl _) _
  have HC := hid (fun W => Check_any x W)
  have HO := hid ho
  have HB := hid hB
  have Hx := hid hx
  have HIN := hid (infoO hx)
  have HZ : RowKit.Hid (errO x = if rightO x then 0 else 5) := rfl
  clear ho hB hx
  cases hr : rightO x with
  | false =>
    rw [hr] at HZ
    have he : errO x = 5 := HZ.out
    rw [he] at HC
    have HR := hid hr
    clear he hr
    go_enter Try.func59, Try.ntmps59
    go_wp2_with (first | ((with_reducible refine at_op ⟨some 6, _, _, _, _, _⟩ ?_); refine wpList_load_row rfl 58 _ rfl w.heap.size rfl 58 (orA x) (0, 0) _ HO.out Try.underlying58 rfl HIN.out ?_) | fail)
    refine (HC.out _).mono ?_
    rintro e w1 ⟨rfl, hb1⟩
    have HB1 := hid (HB.out.trans (hb1.mono HB.out.size))
    clear hb1
    go_wp2
    go_ret2
    exact .inr ⟨HR.out, rfl, HB1.out⟩
  | true =>
    rw [hr] at HZ
    have he : errO x = 0 := HZ.out
    rw [he] at HC
    have HR := hid hr
    clear he hr
    go_enter Try.func59, Try.ntmps59
    go_wp2_with (first | ((with_reducible refine at_op ⟨some 6, _, _, _, _, _⟩ ?_); refine wpList_load_row rfl 58 _ rfl w.heap.size rfl 58 (orA x) (0, 0) _ HO.out Try.underlying58 rfl HIN.out ?_) | fail)
    refine (HC.out _).mono ?_
    rintro e w1 ⟨rfl, hb1⟩
    have HB1 := hid (HB.out.trans (hb1.mono HB.out.size))
    have HO1 := hid (HO.out.below hb1)
    clear hb1
    go_wp2_with (first | ((with_reducible refine at_op ⟨some 11, _, _, _, _, _⟩ ?_); refine wpList_load_row rfl 58 _ rfl w.heap.size rfl 58 (orA x) (0, 0) _ HO1.out Try.underlying58 rfl HIN.out ?_) | fail)
    refine (lay_form x Hx.out _).mono ?_
    rintro e w2 ⟨rfl, hb2⟩
    have HB2 := hid (HB1.out.trans (hb2.mono HB1.out.size))
    have HFL := hid (frmO_len Hx.out)
    obtain ⟨fr, hfe⟩ : ∃ fr, fr = frmO x := ⟨_, rfl⟩
    rw [← hfe] at HFL ⊢
    have HFE := hid hfe
    clear hb2 hfe
    have hN : (w2.alloc (.cells (u8s (List.replicate 64 0)) 107)).heap[w2.heap.size]? = some (.cells (u8s (List.replicate 64 0)) 107 (0, 0)) := heap_alloc_new _ _
    have HNN := hid hN
    have hs2 := HB2.out.size
    clear hN
    go_wp2_with (first | ((with_reducible refine at_op ⟨none, .store 107 (.tmp 5) (.tmp 12), _, _, _, _⟩ ?_); refine wpList_store_row rfl 107 _ _ rfl w2.heap.size (u8s fr) rfl rfl 107 (u8s (List.replicate 64 0)) HNN.out (by rw [u8s_size, HFL.out]; exact szForm) (by rw [u8s_size, u8s_size, HFL.out]; rfl) (u8s_one _) ?_))
    go_ret2
    refine .inl ⟨HR.out, ⟨_, rfl, ?_, hs2⟩, below_setRow (HB2.out.alloc hs2 _) _ _ hs2⟩
    rw [← HFE.out]
    exact setRow_heap _ _ _ _ _ _ HNN.out
end Go.Proofs.Ytceeipejhmnkfaa
