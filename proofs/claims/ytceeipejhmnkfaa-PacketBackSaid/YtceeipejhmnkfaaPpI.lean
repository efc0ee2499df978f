/- PpF PpG PpH PpI in one -/
import Derived.Test.YtceeipejhmnkfaaPpD
import Derived.Test.YtceeipejhmnkfaaObF
namespace Go.Proofs.Ytceeipejhmnkfaa
open Go Go.ChangeShapes Go.WideShapes Go.ChangeAt Go.RowKit

theorem lay_one (xs : List Int) {n : Int} (h0 : 0 ≤ n) (h1 : n ≤ 255) : lay xs n 1 = xs ++ [n] := by rw [lay_al (by omega), byt_one h0 h1]
set_option maxRecDepth 100000 in
/-- Num, of a number that has room. -/
theorem Num_yes (w : World) (p : Nat) (v : Value) (xs : List Int) (n : Int) (k : Nat) (h : WrW w p v xs) (hk : Siz k) (h0 : 0 ≤ n) (h1 : n < 256 ^ k) (hl : xs.length ≤ 100000000000000) :
    Calls Try.prog 38 #[.pointer (some ⟨p, 0, none⟩), .int .u64 n, .int .i64 k] w (LayPost w p v (lay xs n k) (.returned (.int .i64 0))) := by
  refine (Num_any w p v xs n k h h0 hl).mono fun e w' hp => ?_
  unfold NumPost at hp
  rw [numOk_yes hk h1, Int.toNat_natCast] at hp
  exact hp
set_option maxRecDepth 100000 in
set_option maxHeartbeats 1000000 in
/-- layBytes: bytes, one by one. -/
theorem layBytes_any (w : World) (p : Nat) (v : Value) (xs g : List Int) (a : Option Addr) (c : Nat) (h : WrW w p v xs) (hg : Bs w w.heap.size a g) (hn : ∀ b o, a = some ⟨b, o, none⟩ → b ≠ p ∧ v.ownBlock ≠ some b) (hb : Byt g) (hl : xs.length ≤ 1000000) (hl2 : g.length ≤ 1000000) (hc : g.length ≤ c) :
    Calls Try.prog 41 #[.pointer (some ⟨p, 0, none⟩), .slice a g.length c] w (LayPost w p v (xs ++ g) (.returned (.tuple #[]))) := by
  have H2 := hid (WrTo.refl h)
  have HG := hid hg
  have HNE := hid hn
  have HB := hid hb
  have HP := hid h.lt
  obtain ⟨n, hn'⟩ : ∃ n, n = g.length := ⟨_, rfl⟩
  have HN := hid hn'
  have hcc := hc
  rw [← hn'] at hl2 hcc ⊢
  clear hg hn h hn' hb hc
  go_enter Try.func41, Try.ntmps41
  go_wp2
  go_loopw [8] (fun i wr => ∃ q : Nat, q ≤ n ∧ i = .int .i64 q ∧ RowKit.Hid (∃ v', WrTo w p v wr v' (xs ++ g.take q))) (fun i _ => n - (intOf i).toNat)
  case atStart => exact ⟨0, by omega, rfl, hid ⟨v, by simpa using H2.out⟩⟩
  case round =>
    obtain ⟨q, hq, rfl, HR⟩ := hrel
    obtain ⟨v', ht⟩ := HR.out
    have HT := hid ht
    clear HR ht H2
    by_cases hlt : q < n
    · have hqg : q < g.length := by have := HN.out; omega
      have hx : g[q]? = some (g.getD q 0) := getD_at hqg
      have hb0 := (getD_byt HB.out q).1
      have hb1 := (getD_byt HB.out q).2
      obtain ⟨bo, oo, rfl, hbo⟩ := HG.out.some (by omega)
      have hcell : wr.cell? ⟨bo, oo + q, none⟩ = some (.int .u8 (g.getD q 0)) := by
        have h1 := HG.out.cell (j := q) hqg
        rw [← h1]
        refine World.cell?_of_block (w := w) (w' := wr) (a := ⟨bo, oo + q, none⟩) (HT.out.fr.block bo hbo (fun e => ?_))
        obtain ⟨h2, h3⟩ := HNE.out bo oo rfl
        rcases e with e | e
        · exact h2 e
        · exact h3 e
      generalize g.getD q 0 = b at *
      have hlen : (xs ++ g.take q).length ≤ 100000000000000 := by simp; omega
      have HN1 := hid (Num_yes wr p v' (xs ++ g.take q) b 1 HT.out.wr (.inl rfl) hb0 (by omega) hlen)
      rw [lay_one _ hb0 hb1] at HN1
      have HX := hid hx
      clear hx hlen hqg hbo
      have hwb : IntKind.u64.wrap b = b := IntWalk.u64_in _ ⟨by omega, by omega⟩
      go_wp2_with fail
      refine HN1.out.mono ?_
      rintro e w2 ⟨rfl, v2, h2⟩
      have h3 := HT.out.trans h2
      have e3 : xs ++ g.take q ++ [b] = xs ++ g.take (q + 1) := by rw [List.take_add_one, HX.out, List.append_assoc]; rfl
      rw [e3] at h3
      have HP3 := hid h3
      clear h2 h3 e3 HN1 HT hwb hcell
      go_wp2
      go_roundw
      case rel => exact ⟨q + 1, by omega, by go_num, hid ⟨_, HP3.out⟩⟩
      case measure => simp [intOf]; omega
    · have h1 := HT.out
      rw [List.take_of_length_le (by have := HN.out; omega)] at h1
      have HP3 := hid h1
      clear h1
      go_wp2
      refine bodyPost_end (results_none rfl _ _ _) rfl ?_
      exact ⟨rfl, _, HP3.out⟩
/-- The result's cells hold what is said. -/
theorem cells_ret {fn : Func} {Q : Ending → World → Prop} {a : Act} {W : World} {g : Nat} {r : Tmp} {T : TypeId} {cs : Array Value} (hf : fn.results = #[.cell r T]) (h2 : a.tmps.getD r undef = .pointer (some ⟨g, 0, none⟩)) (hd : a.defers = [])
    (hl : (loadVar T ⟨g, 0, none⟩).run Try.prog W = .ok (.agg cs) W) (h : Q (.returned (.agg cs)) W) : bodyPost Try.prog fn Q .ret a W := by
  refine bodyPost_ret (v := .agg cs) ?_ hd h
  rw [results_cell1 hf, h2]
  simp [asAddr, hl, Result.andThen]
/-- The closures, over the boxes of the writer's pointer and of the packet. -/
def cloF (f n : Nat) : Value := .func (.func f) #[] #[.pointer (some ⟨n, 0, none⟩), .pointer (some ⟨n + 1, 0, none⟩)]
def lyA (n : Nat) : Array Value := #[cloF 39 n, cloF 40 n, cloF 42 n, cloF 43 n, cloF 44 n, cloF 45 n]
def nils (n : Nat) : Array Value := (List.replicate n Value.nilFunc).toArray
theorem lyA_one (n : Nat) : (lyA n).all (·.oneCell') = true := by
  simp [lyA, cloF]
  exact ⟨rfl, rfl, rfl, rfl, rfl, rfl⟩
set_option maxRecDepth 100000 in
theorem sz6 : (Try.prog.info? 52).map (·.size) = some 6 := by kernel_rfl
def LyP (w : World) (q : Nat) (p : Pk) (ad : Option Addr) (c : Nat) (e : Ending) (w' : World) : Prop :=
  e = .returned (.agg (lyA w.heap.size)) ∧ w'.heap[w.heap.size]? = some (.cells #[.pointer (some ⟨q, 0, none⟩)] 46 (0, 0)) ∧ InP w' (w.heap.size + 1) p ad c ∧ Below w.heap.size w w'
set_option maxRecDepth 100000 in
set_option maxHeartbeats 1000000 in
theorem layers_any (q : Nat) (p : Pk) (ad : Option Addr) (c : Nat) (w : World) : Calls Try.prog 24 #[.pointer (some ⟨q, 0, none⟩), .agg (pkA p ad c)] w (LyP w q p ad c) := by
  obtain ⟨w1, hw1⟩ : ∃ w1, w1 = w.alloc (.cells #[.pointer (some ⟨q, 0, none⟩)] 46) := ⟨_, rfl⟩
  have s1 : w1.heap.size = w.heap.size + 1 := by rw [hw1]; simp
  have p1 : w1.heap[w.heap.size]? = some (.cells #[.pointer (some ⟨q, 0, none⟩)] 46 (0, 0)) := by rw [hw1]; exact heap_alloc_new _ _
  obtain ⟨w2, hw2⟩ : ∃ w2, w2 = w1.alloc (.cells (pkA p ad c) 28) := ⟨_, rfl⟩
  have s2 : w2.heap.size = w.heap.size + 1 + 1 := by rw [hw2]; simp [s1]
  have p2 : w2.heap[w.heap.size]? = some (.cells #[.pointer (some ⟨q, 0, none⟩)] 46 (0, 0)) := by rw [hw2, heap_alloc_old _ _ (by omega)]; exact p1
  have o2 : InP w2 (w.heap.size + 1) p ad c := by unfold InP; rw [hw2, ← s1]; exact heap_alloc_new _ _
  obtain ⟨w3, hw3⟩ : ∃ w3, w3 = w2.alloc (.cells (nils 6) 52) := ⟨_, rfl⟩
  have p3 : w3.heap[w.heap.size]? = some (.cells #[.pointer (some ⟨q, 0, none⟩)] 46 (0, 0)) := by rw [hw3, heap_alloc_old _ _ (by omega)]; exact p2
  have o3 : InP w3 (w.heap.size + 1) p ad c := by unfold InP; rw [hw3, heap_alloc_old _ _ (by omega)]; exact o2
  have z3 : w3.heap[w.heap.size + 1 + 1]? = some (.cells (nils 6) 52 (0, 0)) := by rw [hw3, ← s2]; exact heap_alloc_new _ _
  have b3 : Below w.heap.size w w3 := by rw [hw3, hw2, hw1]; exact (((Below.refl _ _).alloc (Nat.le_refl _) _).alloc (by simp) _).alloc (by simp; omega) _
  have HW := hid (show w3 = ((w.alloc (.cells #[.pointer (some ⟨q, 0, none⟩)] 46)).alloc (.cells (pkA p ad c) 28)).alloc (.cells (nils 6) 52) by rw [hw3, hw2, hw1])
  have HP3 := hid p3
  have HO3 := hid o3
  have HZ3 := hid z3
  have HB3 := hid b3
  have HSZ := hid sz6
  clear hw1 s1 p1 hw2 s2 p2 o2 hw3 p3 o3 z3 b3
  go_enter Try.func24, Try.ntmps24
  go_upto_region 1 with (fail)
  change Code.wp _ _ _ _ (((w.alloc (.cells #[.pointer (some ⟨q, 0, none⟩)] 46)).alloc (.cells (pkA p ad c) 28)).alloc (.cells (nils 6) 52))
  rw [← HW.out]
  go_wp2_with (first | ((with_reducible refine at_op ⟨none, .store 52 (.tmp 4) (.tmp 11), _, _, _, _⟩ ?_); refine wpList_store_row rfl 52 _ _ rfl (w.heap.size + 1 + 1) (lyA w.heap.size) rfl rfl 52 (nils 6) HZ3.out HSZ.out rfl (lyA_one _) ?_))
  refine cells_ret (r := 4) (T := 52) rfl rfl rfl (run_loadVar_row (P := Try.prog) _ _ _ 52 _ (0, 0) _ (setRow_heap _ _ _ _ _ _ HZ3.out) Try.underlying52 rfl HSZ.out) ⟨rfl, ?_, ?_, below_setRow HB3.out _ _ (by omega)⟩
  · rw [setRow_other _ _ _ _ (by omega)]; exact HP3.out
  · unfold InP; rw [setRow_other _ _ _ _ (by omega)]; exact HO3.out
end Go.Proofs.Ytceeipejhmnkfaa

namespace Go.Proofs.Ytceeipejhmnkfaa
open Go Go.ChangeShapes Go.WideShapes Go.ChangeAt Go.RowKit

set_option maxRecDepth 100000 in
set_option maxHeartbeats 1000000 in
/-- layHead: what all kinds have. -/
theorem layHead_any (p : Pk) (hp : PkOk p) (hr : rightP p = true) (ad : Option Addr) (c : Nat) (w : World) (q : Nat) (v : Value) (h : WrW w q v []) :
    Calls Try.prog 22 #[.pointer (some ⟨q, 0, none⟩), .agg (pkA p ad c)] w (LayPost w q v (hdP p) (.returned (.tuple #[]))) := by
  obtain ⟨w1, hw1⟩ : ∃ w1, w1 = w.alloc (.cells (pkA p ad c) 28) := ⟨_, rfl⟩
  have ho : InP w1 w.heap.size p ad c := by rw [hw1]; exact heap_alloc_new _ _
  have hq := h.lt
  have ht : WrTo w q v w1 v [] := by
    rw [hw1]
    exact ⟨h.fr (fp := fun _ => False) (frA w _) (fun h => h) (fun _ _ h => h), (frA w _).mono (fun _ h => h.elim), fun _ h => .inl h⟩
  obtain ⟨⟨f0, f1⟩, ⟨t0, t1⟩, ⟨k0, k1⟩⟩ := rightP_hd hr
  have wk : IntKind.u64.wrap p.ki = p.ki := IntWalk.u64_in _ ⟨by omega, by omega⟩
  have wf : IntKind.u64.wrap p.fr = p.fr := IntWalk.u64_in _ ⟨by omega, by omega⟩
  have wt : IntKind.u64.wrap p.to = p.to := IntWalk.u64_in _ ⟨by omega, by omega⟩
  have hv : ∀ j, v.ownBlock = some j → j < w.heap.size := fun j hj => (h.row.lt j hj).2
  have HV := hid hv
  have HO := hid ho
  have HT := hid ht
  have HW := hid hw1
  have c0 := ho.c0
  have N1 := hid (fun v' (hv' : WrW w1 q v' []) => Num_yes w1 q v' [] p.ki 1 hv' (.inl rfl) (by omega) (by omega) (by simp))
  have e1 : lay [] p.ki 1 = [p.ki] := by rw [lay_one _ (by omega) (by omega)]; rfl
  have e2 : lay [p.ki] p.fr 1 = [p.ki, p.fr] := by rw [lay_one _ (by omega) (by omega)]; rfl
  have e3 : lay [p.ki, p.fr] p.to 1 = [p.ki, p.fr, p.to] := by rw [lay_one _ (by omega) (by omega)]; rfl
  rw [e1] at N1
  have hs0 := hp.sq.1
  have hs1 := hp.sq.2
  have N2 := hid (fun W v' (hv' : WrW W q v' [p.ki]) => Num_yes W q v' [p.ki] p.fr 1 hv' (.inl rfl) (by omega) (by omega) (by simp))
  have N3 := hid (fun W v' (hv' : WrW W q v' [p.ki, p.fr]) => Num_yes W q v' [p.ki, p.fr] p.to 1 hv' (.inl rfl) (by omega) (by omega) (by simp))
  have N4 := hid (fun W v' (hv' : WrW W q v' [p.ki, p.fr, p.to]) => Num_yes W q v' [p.ki, p.fr, p.to] p.sq 8 hv' (.inr (.inr (.inr rfl))) hs0 (by omega) (by simp))
  rw [e2] at N2
  rw [e3] at N3
  have IN := hid (fun W v' ys (ht' : WrTo w1 q v W v' ys) => ho.fr' ht'.fr (fun e => by
    rcases e with e | e
    · omega
    · have := hv _ e; omega))
  clear hw1 ho ht h hr hp e1 e2 e3 hv f0 f1 t0 t1 k0 k1 hs0 hs1
  go_enter Try.func22, Try.ntmps22
  go_upto_region 1 with (fail)
  rw [← HW.out]
  go_wp2_with fail
  refine (N1.out v HT.out.wr).mono ?_
  rintro e w2 ⟨rfl, v2, h2⟩
  have H2 := hid h2
  have c1 := (IN.out w2 v2 _ h2).c1
  clear h2 c0 N1 wk
  go_wp2_with fail
  refine (N2.out w2 v2 H2.out.wr).mono ?_
  rintro e w3 ⟨rfl, v3, h3⟩
  have h3' := H2.out.trans h3
  have H3 := hid h3'
  have c2 := (IN.out w3 v3 _ h3').c2
  clear h3 h3' c1 N2 wf H2
  go_wp2_with fail
  refine (N3.out w3 v3 H3.out.wr).mono ?_
  rintro e w4 ⟨rfl, v4, h4⟩
  have h4' := H3.out.trans h4
  have H4 := hid h4'
  have c3 := (IN.out w4 v4 _ h4').c3
  clear h4 h4' c2 N3 wt H3
  go_wp2_with fail
  refine (N4.out w4 v4 H4.out.wr).mono ?_
  rintro e w5 ⟨rfl, v5, h5⟩
  have H5 := hid (HT.out.trans (H4.out.trans h5))
  clear h5 c3 N4 H4
  go_wp2
  refine bodyPost_end (results_none rfl _ _ _) rfl ?_
  exact ⟨rfl, _, H5.out⟩
end Go.Proofs.Ytceeipejhmnkfaa

namespace Go.Proofs.Ytceeipejhmnkfaa
open Go Go.ChangeShapes Go.WideShapes Go.ChangeAt Go.RowKit

theorem WrTo.on {w w1 w2 : World} {p : Nat} {v v1 : Value} {xs : List Int} (h : WrTo w p v w1 v1 xs) (hB : Below w1.heap.size w1 w2) : WrTo w p v w2 v1 xs :=
  ⟨h.wr.fr (Fr.of_below (fp := fun _ => False) hB) (fun h => h) (fun _ _ h => h), h.fr.trans (Fr.of_below (fp := fun _ => False) hB) (fun _ e _ => e.elim), h.own⟩
set_option maxRecDepth 100000 in
set_option maxHeartbeats 1000000 in
theorem layRef_none (w : World) (q : Nat) (v : Value) (xs : List Int) (a : Option Addr) (c : Nat) (h : WrW w q v xs) (hl : xs.length ≤ 1000000) :
    Calls Try.prog 46 #[.pointer (some ⟨q, 0, none⟩), .slice a 0 c] w (LayPost w q v (lay xs 0 8) (.returned (.tuple #[]))) := by
  have HN := hid (Num_yes w q v xs 0 8 h (.inr (.inr (.inr rfl))) (by omega) (by decide) (by omega))
  clear h hl
  go_enter Try.func46, Try.ntmps46
  go_wp2_with fail
  refine HN.out.mono ?_
  rintro e w2 ⟨rfl, v2, h2⟩
  have H2 := hid h2
  clear h2
  go_wp2
  refine wp_loop_rounds 1 ?_
  rw [rounds_succ]
  go_wp2
  refine bodyPost_end (results_none rfl _ _ _) rfl ?_
  exact ⟨rfl, _, H2.out⟩
set_option maxRecDepth 100000 in
set_option maxHeartbeats 2000000 in
theorem layRef_one (w : World) (q : Nat) (v : Value) (xs : List Int) (x : Orf) (hx : OrfOk x) (hr : rightO x = true) (bo oo c : Nat) (h : WrW w q v xs) (hl : xs.length ≤ 1000) (hat : AtL w bo oo (orc x)) (hbo : bo < w.heap.size) (hn : bo ≠ q ∧ v.ownBlock ≠ some bo) (hc : 1 ≤ c) :
    Calls Try.prog 46 #[.pointer (some ⟨q, 0, none⟩), .slice (some ⟨bo, oo, none⟩) 1 c] w (LayPost w q v (lay xs 1 8 ++ frmO x) (.returned (.tuple #[]))) := by
  have HN := hid (Num_yes w q v xs 1 8 h (.inr (.inr (.inr rfl))) (by omega) (by decide) (by omega))
  have hc1 := hc
  clear hc
  have HAT := hid hat
  have HNE := hid hn
  have HQ := hid h.lt
  have Hx := hid hx
  have HR := hid hr
  have HIN := hid (infoO hx)
  have HL := hid (show (lay xs 1 8).length ≤ 1000000 by rw [lay_len]; have := gap_lt (n := xs.length) (k := 8) (.inr (.inr (.inr rfl))); omega)
  have HSE := hid (show (orA orZ).size = (orA x).size by rw [orA_size orZ_ok, orA_size hx])
  clear h hl hat hn hx hr
  go_enter Try.func46, Try.ntmps46
  go_wp2_with fail
  refine HN.out.mono ?_
  rintro e w2 ⟨rfl, v2, h2⟩
  have H2 := hid h2
  have HA2 := hid (show AtL w2 bo oo (orc x) from fun j u hu => (World.cell?_of_block (w := w) (w' := w2) (a := ⟨bo, oo + j, none⟩) (h2.fr.block bo hbo (fun e => by
    rcases e with e | e
    · exact HNE.out.1 e
    · exact HNE.out.2 e))).trans (HAT.out j u hu))
  obtain ⟨w3, hw3⟩ : ∃ w3, w3 = w2.alloc (.cells (orA orZ) 58) := ⟨_, rfl⟩
  have hz3 : w3.heap[w2.heap.size]? = some (.cells (orA orZ) 58 (0, 0)) := by rw [hw3]; exact heap_alloc_new _ _
  have hb3 : Below w2.heap.size w2 w3 := by rw [hw3]; exact (Below.refl _ _).alloc (Nat.le_refl _) _
  obtain ⟨w4, hw4⟩ : ∃ w4, w4 = w3.setRow w2.heap.size (orA x) := ⟨_, rfl⟩
  have ho4 : InO w4 w2.heap.size x := by rw [hw4]; exact setRow_heap _ _ _ _ _ _ hz3
  have hb4 : Below w2.heap.size w2 w4 := by rw [hw4]; exact below_setRow hb3 _ _ (Nat.le_refl _)
  have HZ3 := hid hz3
  have HO4 := hid ho4
  have HB4 := hid hb4
  have HW4 := hid (show w4 = (w2.alloc (.cells (orA orZ) 58)).setRow w2.heap.size (orA x) by rw [hw4, hw3])
  have HEN := hid (Encode_any x Hx.out w4)
  rw [hw3] at HZ3
  clear h2 hw3 hz3 hb3 hw4 ho4 hb4 HAT HN
  go_wp2
  refine wp_loop_rounds 2 ?_
  rw [rounds_succ]
  go_upto_region 4 with (first
    | ((with_reducible refine at_op ⟨some 18, _, _, _, _, _⟩ ?_); refine wpList_runW rfl (.agg (orA x)) (load_oa rfl rfl HA2.out Hx.out) ?_)
    | ((with_reducible refine at_op ⟨none, .store 58 (.tmp 5) (.tmp 18), _, _, _, _⟩ ?_); refine wpList_store_row rfl 58 _ _ rfl w2.heap.size (orA x) rfl rfl 58 (orA orZ) HZ3.out HIN.out HSE.out (orA_one _) ?_)
    | fail)
  change Code.wp _ _ _ _ ((w2.alloc (.cells (orA orZ) 58)).setRow w2.heap.size (orA x))
  rw [← HW4.out]
  go_wp2_with (first | ((with_reducible refine at_op ⟨some 20, _, _, _, _, _⟩ ?_); refine wpList_load_row rfl 58 _ rfl w2.heap.size rfl 58 (orA x) (0, 0) _ HO4.out Try.underlying58 rfl HIN.out ?_) | fail)
  refine HEN.out.mono ?_
  rintro e w5 hen
  unfold EncPost at hen
  rw [HR.out] at hen
  obtain ⟨g, rfl, hg5, hg5', hb5⟩ : ∃ g, e = .returned (.tuple #[.slice (some ⟨g, 0, none⟩) 64 64, .int .i64 0]) ∧ w5.heap[g]? = some (.cells (u8s (frmO x)) 107 (0, 0)) ∧ w4.heap.size ≤ g ∧ Below w4.heap.size w4 w5 := by
    rcases hen with ⟨_, ⟨g, h1, h2, h3⟩, h4⟩ | ⟨h1, _⟩
    · exact ⟨g, h1, h2, h3, h4⟩
    · cases h1
  have H5 := hid (H2.out.on (HB4.out.trans (hb5.mono HB4.out.size)))
  have hs4 := HB4.out.size
  have hlb := layBytes_any w5 q v2 (lay xs 1 8) (frmO x) (some ⟨g, 0, none⟩) 64 H5.out.wr
    ⟨fun _ => ⟨g, 0, rfl, lt_of_heap hg5⟩, fun b o he => by cases he; exact AtL.row (cs := u8l (frmO x)) hg5⟩
    (fun b o he => by
      cases he
      have h2 := H2.out.wr.lt
      refine ⟨by omega, fun e => ?_⟩
      have := (H2.out.wr.row.lt _ e).2
      omega) (frmO_byt Hx.out) HL.out (by rw [frmO_len Hx.out]; omega) (by rw [frmO_len Hx.out]; omega)
  rw [frmO_len Hx.out] at hlb
  have HLB := hid hlb
  clear hlb hs4 hg5 hg5' hb5 hen HEN HO4 HZ3 HW4
  go_wp2_with fail
  refine HLB.out.mono ?_
  rintro e w6 ⟨rfl, v6, h6⟩
  have H6 := hid (H5.out.trans h6)
  clear h6 HLB H5 H2
  go_wp2
  rw [rounds_succ]
  go_wp2
  refine bodyPost_end (results_none rfl _ _ _) rfl ?_
  exact ⟨rfl, _, H6.out⟩
end Go.Proofs.Ytceeipejhmnkfaa

namespace Go.Proofs.Ytceeipejhmnkfaa
open Go Go.ChangeShapes Go.WideShapes Go.ChangeAt Go.RowKit

/-- The writer at q, the boxes at n and n + 1, the row of fields at g. -/
structure ESt (w : World) (q n g : Nat) (p : Pk) (ad : Option Addr) (c : Nat) (R : List Bool) (xs : List Int) (W : World) : Prop where
  wr : ∃ v, WrW W q v xs ∧ ∀ j, v.ownBlock = some j → w.heap.size ≤ j ∧ j ≠ n ∧ j ≠ n + 1 ∧ j ≠ g
  hw : W.heap[n]? = some (.cells #[.pointer (some ⟨q, 0, none⟩)] 46 (0, 0))
  hp : InP W (n + 1) p ad c
  hg : W.heap[g]? = some (.cells (bools R) 50 (0, 0))
  b : Below w.heap.size w W
  lo : w.heap.size ≤ q
  ne : q ≠ n ∧ q ≠ n + 1 ∧ q ≠ g
theorem ESt.call {w W : World} {q n g : Nat} {p : Pk} {ad : Option Addr} {c : Nat} {R : List Bool} {xs ys : List Int} {f : FuncId} {args : Array Value} {r : Ending} (h : ESt w q n g p ad c R xs W)
    (hc : ∀ v, WrW W q v xs → (∀ j, v.ownBlock = some j → w.heap.size ≤ j ∧ j ≠ n ∧ j ≠ n + 1 ∧ j ≠ g) → Calls Try.prog f args W (LayPost W q v ys r)) : Calls Try.prog f args W fun e W' => e = r ∧ ESt w q n g p ad c R ys W' := by
  obtain ⟨v, hv, hj⟩ := h.wr
  obtain ⟨n1, n2, n3⟩ := h.ne
  have hn := lt_of_heap h.hw
  have hp := h.hp.lt
  have hg := lt_of_heap h.hg
  refine (hc v hv hj).mono fun e W' ⟨he, v', ht⟩ => ⟨he, ⟨⟨v', ht.wr, fun j hj' => ?_⟩, ?_, ?_, ?_, ?_, h.lo, h.ne⟩⟩
  · rcases ht.own j hj' with h1 | h1
    · exact hj j h1
    · exact ⟨Nat.le_trans h.b.size h1, by omega, by omega, by omega⟩
  · rw [ht.fr.block _ hn (fun e => by
      rcases e with e | e
      · omega
      · exact (hj _ e).2.1 rfl)]
    exact h.hw
  · exact h.hp.fr' ht.fr (fun e => by
      rcases e with e | e
      · omega
      · exact (hj _ e).2.2.1 rfl)
  · rw [ht.fr.block _ hg (fun e => by
      rcases e with e | e
      · omega
      · exact (hj _ e).2.2.2 rfl)]
    exact h.hg
  · exact h.b.trans (ht.fr.below (B := w.heap.size) h.b.size (fun k hk => by
      rcases hk with rfl | hk
      · exact h.lo
      · exact (hj _ hk).1))
theorem ESt.num {w W : World} {q n g : Nat} {p : Pk} {ad : Option Addr} {c : Nat} {R : List Bool} {xs : List Int} (h : ESt w q n g p ad c R xs W) (z : Int) (k : Nat) (hk : Siz k) (h0 : 0 ≤ z) (h1 : z < 256 ^ k) (hl : xs.length ≤ 1000) :
    Calls Try.prog 38 #[.pointer (some ⟨q, 0, none⟩), .int .u64 z, .int .i64 k] W fun e W' => e = .returned (.int .i64 0) ∧ ESt w q n g p ad c R (lay xs z k) W' :=
  h.call fun v hv _ => Num_yes W q v xs z k hv hk h0 h1 (by omega)
def CloP (w : World) (q n g : Nat) (p : Pk) (ad : Option Addr) (c : Nat) (R : List Bool) (ys : List Int) (e : Ending) (W' : World) : Prop := e = .returned (.tuple #[]) ∧ ESt w q n g p ad c R ys W'
section
variable {w W : World} {q n g : Nat} {p : Pk} {ad : Option Addr} {c : Nat} {R : List Bool} {xs : List Int}
set_option maxRecDepth 100000 in
theorem clo1 (hp : PkOk p) (h : ESt w q n g p ad c R xs W) (hl : xs.length ≤ 1000) : Calls Try.prog 39 #[.pointer (some ⟨n, 0, none⟩), .pointer (some ⟨n + 1, 0, none⟩)] W (CloP w q n g p ad c R (lay xs p.ca 8)) := by
  have c0 := cell_of_row W n 0 _ 46 _ h.hw
  have c4 := h.hp.c4
  have HN := hid (h.num p.ca 8 (.inr (.inr (.inr rfl))) hp.ca.1 (by have := hp.ca.2; omega) hl)
  clear h hl hp
  go_enter Try.func39, Try.ntmps39
  go_wp2_with fail
  refine HN.out.mono ?_
  rintro e w2 ⟨rfl, h2⟩
  have H2 := hid h2
  clear h2
  go_wp2
  exact bodyPost_end (results_none rfl _ _ _) rfl ⟨rfl, H2.out⟩
set_option maxRecDepth 100000 in
theorem clo3 (hp : 0 ≤ p.me ∧ p.me ≤ 7) (h16 : p.ip.length = 16) (h : ESt w q n g p ad c R xs W) (hl : xs.length ≤ 1000) : Calls Try.prog 42 #[.pointer (some ⟨n, 0, none⟩), .pointer (some ⟨n + 1, 0, none⟩)] W (CloP w q n g p ad c R (xs ++ [p.me])) := by
  have c0 := cell_of_row W n 0 _ 46 _ h.hw
  have c21 := h.hp.c21 h16
  have wk : IntKind.u64.wrap p.me = p.me := IntWalk.u64_in _ ⟨by omega, by omega⟩
  have HN := hid (h.num p.me 1 (.inl rfl) hp.1 (by have := hp.2; omega) hl)
  rw [lay_one _ hp.1 (by have := hp.2; omega)] at HN
  clear h hl hp
  go_enter Try.func42, Try.ntmps42
  go_wp2_with fail
  refine HN.out.mono ?_
  rintro e w2 ⟨rfl, h2⟩
  have H2 := hid h2
  clear h2
  go_wp2
  exact bodyPost_end (results_none rfl _ _ _) rfl ⟨rfl, H2.out⟩
set_option maxRecDepth 100000 in
theorem clo4 (hp : 0 ≤ p.co ∧ p.co ≤ 20) (h16 : p.ip.length = 16) (h : ESt w q n g p ad c R xs W) (hl : xs.length ≤ 1000) : Calls Try.prog 43 #[.pointer (some ⟨n, 0, none⟩), .pointer (some ⟨n + 1, 0, none⟩)] W (CloP w q n g p ad c R (xs ++ [p.co])) := by
  have c0 := cell_of_row W n 0 _ 46 _ h.hw
  have c23 := h.hp.c23 h16
  have wk : IntKind.u64.wrap p.co = p.co := IntWalk.u64_in _ ⟨by omega, by omega⟩
  have HN := hid (h.num p.co 1 (.inl rfl) hp.1 (by have := hp.2; omega) hl)
  rw [lay_one _ hp.1 (by have := hp.2; omega)] at HN
  clear h hl hp
  go_enter Try.func43, Try.ntmps43
  go_wp2_with fail
  refine HN.out.mono ?_
  rintro e w2 ⟨rfl, h2⟩
  have H2 := hid h2
  clear h2
  go_wp2
  exact bodyPost_end (results_none rfl _ _ _) rfl ⟨rfl, H2.out⟩
set_option maxRecDepth 100000 in
theorem clo5 (h16 : p.ip.length = 16) (h : ESt w q n g p ad c R xs W) (hl : xs.length ≤ 1000) : Calls Try.prog 44 #[.pointer (some ⟨n, 0, none⟩), .pointer (some ⟨n + 1, 0, none⟩)] W (CloP w q n g p ad c R (lay xs (un p.n) 8)) := by
  have c0 := cell_of_row W n 0 _ 46 _ h.hw
  have c22 := h.hp.c22 h16
  have hu := un_u64 p.n
  have HN := hid (h.num (un p.n) 8 (.inr (.inr (.inr rfl))) hu.1 (by have := hu.2; omega) hl)
  clear h hl hu
  go_enter Try.func44, Try.ntmps44
  go_wp2_with fail
  refine HN.out.mono ?_
  rintro e w2 ⟨rfl, h2⟩
  have H2 := hid h2
  clear h2
  go_wp2
  exact bodyPost_end (results_none rfl _ _ _) rfl ⟨rfl, H2.out⟩
theorem ESt.on {W' : World} (h : ESt w q n g p ad c R xs W) (hB : Below W.heap.size W W') : ESt w q n g p ad c R xs W' := by
  obtain ⟨v, hv, hj⟩ := h.wr
  refine ⟨⟨v, hv.fr (Fr.of_below (fp := fun _ => False) hB) (fun h => h) (fun _ _ h => h), hj⟩, ?_, h.hp.below hB, ?_, h.b.trans (hB.mono h.b.size), h.lo, h.ne⟩
  · rw [hB.block _ (lt_of_heap h.hw)]; exact h.hw
  · rw [hB.block _ (lt_of_heap h.hg)]; exact h.hg
set_option maxRecDepth 100000 in
theorem clo2 (hg : IsG p.ip) (h : ESt w q n g p ad c R xs W) (hl : xs.length ≤ 1000) : Calls Try.prog 40 #[.pointer (some ⟨n, 0, none⟩), .pointer (some ⟨n + 1, 0, none⟩)] W (CloP w q n g p ad c R (xs ++ p.ip)) := by
  have c0 := cell_of_row W n 0 _ 46 _ h.hw
  have hd := h.on (Below.refl _ W).drew
  have hlb : Calls Try.prog 41 #[.pointer (some ⟨q, 0, none⟩), .slice (some ⟨n + 1, 5, none⟩) p.ip.length 16] W.drew fun e W' => e = .returned (.tuple #[]) ∧ ESt w q n g p ad c R (xs ++ p.ip) W' :=
    hd.call fun v hv hj => layBytes_any W.drew q v xs p.ip (some ⟨n + 1, 5, none⟩) 16 hv ⟨fun _ => ⟨n + 1, 5, rfl, hd.hp.lt⟩, fun b o he => by cases he; exact hd.hp.ip⟩
      (fun b o he => by
        cases he
        exact ⟨fun e => hd.ne.2.1 e.symm, fun e => (hj _ e).2.2.1 rfl⟩) hg.byt (by omega) (by rw [hg.len]; omega) (by rw [hg.len]; omega)
  rw [hg.len] at hlb
  have HLB := hid hlb
  clear h hl hg hd hlb
  go_enter Try.func40, Try.ntmps40
  refine C.wp_region_mix [1, 0, 0, 3] (fun W => W.cell? ⟨n, 0, none⟩ = some (.pointer (some ⟨q, 0, none⟩))) (by kernel_rfl) (by kernel_rfl) (by simpa using c0) ?_
  refine C.wpMix_read (.pointer (some ⟨q, 0, none⟩)) rfl rfl (by rintro W h1; go_simp) ?_
  simp only [Act.put, List.setIfInBounds_toArray, List.set_cons_zero, List.set_cons_succ]
  refine C.wpMix_value (.pointer (some ⟨n + 1, 5, none⟩)) rfl rfl (by intro W; go_simp) ?_
  simp only [Act.put, List.setIfInBounds_toArray, List.set_cons_zero, List.set_cons_succ]
  refine C.wpMix_value (.slice (some ⟨n + 1, 5, none⟩) 16 16) rfl rfl (by intro W; go_simp) ?_
  simp only [Act.put, List.setIfInBounds_toArray, List.set_cons_zero, List.set_cons_succ]
  refine C.wpMix_call 41 #[.pointer (some ⟨q, 0, none⟩), .slice (some ⟨n + 1, 5, none⟩) 16 16] (by decide) rfl (by go_simp) ?_
  refine HLB.out.mono ?_
  rintro e W2 ⟨rfl, h2⟩
  refine ⟨_, rfl, fun h => (by cases h), ?_⟩
  simp only [Act.put, List.setIfInBounds_toArray, List.set_cons_zero, List.set_cons_succ]
  refine C.wpMix_end ?_
  have H2 := hid h2
  clear h2
  go_wp2
  exact bodyPost_end (results_none rfl _ _ _) rfl ⟨rfl, H2.out⟩
set_option maxRecDepth 100000 in
theorem clo6 (hp : PkOk p) (hr : p.rs.all rightO = true) (h1 : p.rs.length ≤ 1) (hc : p.rs.length ≤ c) (hrw : RwO w w.heap.size ad p.rs) (h : ESt w q n g p ad c R xs W) (hl : xs.length ≤ 1000) :
    Calls Try.prog 45 #[.pointer (some ⟨n, 0, none⟩), .pointer (some ⟨n + 1, 0, none⟩)] W (CloP w q n g p ad c R (lay xs p.rs.length 8 ++ refsP p)) := by
  have c0 := cell_of_row W n 0 _ 46 _ h.hw
  have c24 := h.hp.c24 hp.ip.len
  have hcl : Calls Try.prog 46 #[.pointer (some ⟨q, 0, none⟩), .slice ad p.rs.length c] W fun e W' => e = .returned (.tuple #[]) ∧ ESt w q n g p ad c R (lay xs p.rs.length 8 ++ refsP p) W' := by
    refine h.call fun v hv hj => ?_
    match hq : p.rs, h1 with
    | [], _ =>
      have hz : refsP p = [] := by simp [refsP, hq]
      rw [hz, List.append_nil]
      exact layRef_none W q v xs ad c hv (by omega)
    | [x], _ =>
      have hz : refsP p = frmO x := by simp [refsP, hq]
      rw [hz]
      have hrw' : RwO W w.heap.size ad [x] := by have := hrw.kept h.b; rwa [hq] at this
      obtain ⟨bo, oo, rfl, hlt⟩ := hrw'.at_ (by simp)
      have hat := hrw'.rows bo oo rfl 0 x rfl
      have hrx : rightO x = true := by rw [hq] at hr; simpa using hr
      exact layRef_one W q v xs x (hp.rs x (by rw [hq]; simp)) hrx bo oo c hv hl (by simpa using hat) (Nat.lt_of_lt_of_le hlt h.b.size) ⟨fun e => by have := h.lo; omega, fun e => by have := (hj _ e).1; omega⟩ (by rw [hq] at hc; simpa using hc)
  have HCL := hid hcl
  clear h hl hp hr h1 hc hrw hcl
  go_enter Try.func45, Try.ntmps45
  go_wp2_with fail
  refine HCL.out.mono ?_
  rintro e w2 ⟨rfl, h2⟩
  have H2 := hid h2
  clear h2
  go_wp2
  exact bodyPost_end (results_none rfl _ _ _) rfl ⟨rfl, H2.out⟩
end
end Go.Proofs.Ytceeipejhmnkfaa
