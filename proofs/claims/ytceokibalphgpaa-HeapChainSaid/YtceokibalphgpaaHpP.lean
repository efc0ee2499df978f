/-
  The laws of layer 11: HeapChain.
-/
import Derived.Test.YtceokibalphgpaaHpJ
namespace Go.Proofs.Ytceokibalphgpaa
open Go Go.ChangeShapes Go.WideShapes Go.ChangeAt Go.RowKit

theorem hand_hn {n i : Nat} (h : i ≤ n) (hn : n ≤ 100) : Hn (hand i 1) := by unfold hand Hn; omega
set_option maxRecDepth 100000 in
set_option maxHeartbeats 8000000 in
theorem HeapChain_any (w : World) (Rp : (Nat → Prop) → World → Value → Hs → Prop) (HC : HeapC w Rp) (n keep : Int) (hn : Nm n) (hkp : Nm keep) :
    Calls Try.prog 6 #[.int .i64 n, .int .i64 keep] w fun e w' => e = .returned (.bool true) ∧ Below w.heap.size w w' := by
  obtain ⟨m, hm⟩ : ∃ m : Nat, n % 100 = (m : Int) := ⟨(n % 100).toNat, by omega⟩
  have hm1 : m < 100 := by omega
  have HCC := hid HC
  have HPN := hid (fun W => Pick_any n 100 W hn (by omega) (by omega))
  rw [hm] at HPN
  have HN := hid (HC.new 100 9 w (Below.refl _ _) (by simp [Nm]) (by simp [U32]))
  have HK := hid hkp
  obtain ⟨i0, hi, hz0, hz1, hz2⟩ := info_parts infoU
  have hi' := hid hi
  have hz0' := hid hz0
  have hz1' := hid hz1
  have hz2' := hid hz2
  clear HC hn hkp hi hz0 hz1 hz2 hm
  go_enter Try.func6, Try.ntmps6
  go_wp2_with fail
  refine (HPN.out _).mono ?_
  rintro e wp ⟨rfl, hwp⟩
  subst hwp
  clear HPN
  go_wp2_with fail
  obtain ⟨M, hM⟩ : ∃ M : Nat, M = 1 + m := ⟨_, rfl⟩
  rw [show (1 + (m : Int)) = (M : Int) by omega]
  have hM1 : 1 ≤ M := by omega
  have hM2 : M ≤ 100 := by omega
  clear hM hm1
  refine HN.out.mono ?_
  rintro e w1 ⟨hb1, hx⟩
  rw [if_pos (by omega)] at hx
  obtain ⟨p, S, rfl, hS, hR⟩ := hx
  obtain ⟨pb, rfl⟩ := HCC.out.ptr hR
  have HI := hid (show ChI Rp w (.pointer (some ⟨pb, 0, none⟩)) (.slice none 0 0) 0 w1 from ⟨⟨S, _, RowS.nil _ _ _ _ _, hS, hR, rfl, rfl, frs_new _ _, rfl⟩, hb1⟩)
  clear hb1 hS hR HN
  go_wp2
  go_loopw [8, 7] (fun p v wr => ∃ i : Nat, i ≤ M ∧ p = .int .i64 i ∧ RowKit.Hid (ChI Rp w (.pointer (some ⟨pb, 0, none⟩)) v i wr)) (fun p _ _ => M - (intOf p).toNat)
  case atStart => exact ⟨0, by omega, rfl, HI⟩
  case round =>
    obtain ⟨i, hiM, rfl, HIi⟩ := hrel
    clear HI
    by_cases hlt : i < M
    · obtain ⟨S, s, h1, h2, h3, h4, h5, h6, h7⟩ := HIi.out.ex
      have HB := hid HIi.out.b
      have H1 := hid h1
      have H2 := hid h2
      have H3 := hid h3
      have H4 := hid h4
      have H5 := hid h5
      have H6 := hid h6
      have H7 := hid h7
      clear h1 h2 h3 h4 h5 h6 h7 HIi
      go_wp2_with fail
      refine (HCC.out.make S wr _ s 1 0 HB.out H3.out (by simp [Nm]) (by simp [Hn])).mono ?_
      rintro e w4 ⟨hf, s', hh, er, rfl, hmk, hR4⟩
      cases hmk with
      | arg h => omega
      | stale h h0 => exact absurd rfl h0
      | inner h h0 => exact absurd rfl h0
      | full h h0 hF => exact absurd hF (H6.out.full (by omega))
      | @ok h h0 ii gg A' hp =>
      obtain ⟨hf6, hii, hgg, hfi⟩ := H6.out.put hp
      obtain ⟨y, hy⟩ : ∃ y, y = hand ii gg := ⟨_, rfl⟩
      rw [← hy] at hR4 ⊢
      rw [H7.out] at hgg hfi
      rw [hii, hgg] at hy
      have hL4 : addIn s.L 0 y ++ [newOb y 0 (1 : Int).toNat] = chn none (hs1 i) ++ [newOb y 0 1] := by
        rw [H4.out]
        rfl
      have hb4 : Below w.heap.size w w4 := HB.out.trans (hf.below HB.out.size H2.out)
      have HB4 := hid hb4
      have HR4 := hid hR4
      have hr4 := H1.out.fr hf
      have HS4 := hid (exS_ge (w' := w4) H2.out HB.out.size)
      have HL4 := hid hL4
      have HF4 := hid hf6
      have HA4 := hid hfi
      have HT4 := hid H5.out
      have hyn : Hn y := by rw [hy]; exact hand_hn hiM hM2
      have HYN := hid hyn
      have HY := hid hy
      obtain ⟨av, kv, hv, hkv1, hkv2, hgv⟩ := hr4.form
      subst hv
      have hn1 : (hs1 i).length = i := hs1_len i
      rw [hn1] at hr4 hkv1 ⊢
      have H14 := hid hr4
      have HLT4 := hid (HCC.out.lt hR4)
      clear hf hR4 h h0 hp hf6 hfi hy hyn hL4 hb4 hr4 hgv hgg hii H1 H2 H3 H4 H5 H6 H7 HB hn1
      go_upto_region 13 with (first
        | (at_builtin; refine wpList_append_own_at _ (o := ⟨some 39, _, _, _, _, _⟩) rfl (.tmp 36) (.tmp 38) 43 rfl w.heap.size 34 i0 (.int .u64 0) 1 8 Try.underlying43 hi'.out hz0'.out hz1'.out hz2'.out rfl (by decide) (.slice av i kv) _ _ rfl (H14.out.own.alloc _) ⟨w4.heap.size, 0, none⟩ 1 1 [.int .u64 y] rfl rfl (World.news_of_block (heap_alloc_new w4 _)) (fun u hu => by rw [List.mem_singleton.1 hu]; rfl) (by rw [hs1_len]; unfold maxLen; omega) (by rw [hs1_len]; omega) (by have := HB4.out.size; simp; omega) ?_; intro vz wz hownz hgrowz hnilz hatz; have HOz := hid hownz; have HGz := hid hgrowz; have HAz := hid hatz; clear hownz hgrowz hnilz hatz)
        | fail)
      obtain ⟨hr7, hf7⟩ := H14.out.app (x := y) HLT4.out HOz.out HGz.out HAz.out
      have hob : ∀ k, (Value.slice av i kv).ownBlock = some k → w.heap.size ≤ k ∧ ¬ exS S wr w4 k := fun k hk => ⟨(H14.out.own.lt k hk).1, H14.out.off k hk⟩
      have hR7 := HCC.out.keep HR4.out (fun b hb => hf7.block b (HLT4.out b hb) (fun hk => (hob b hk).2 hb)) hf7.size
      have hb7 : Below w.heap.size w wz := HB4.out.trans (hf7.below HB4.out.size fun k hk => (hob k hk).1)
      rw [show hs1 i ++ [y] = hs1 (i + 1) by rw [hs1_succ, ← HY.out]] at hr7
      have H17 := hid hr7
      have HR7 := hid hR7
      have HB7 := hid hb7
      clear hr7 hf7 HOz HGz HAz HLT4 HR4 H14 HB4 hob hR7 hb7
      by_cases hi0 : i = 0
      · have hd0 : decide (0 < i) = false := by simp [hi0]
        have HI6 := hid (show ChI Rp w (.pointer (some ⟨pb, 0, none⟩)) vz (i + 1) wz from ⟨⟨_, _, H17.out, HS4.out, HR7.out, by have := HL4.out; have := HY.out; subst hi0; rw [show hs1 (0 + 1) = [y] from by rw [HY.out]; rfl]; exact HL4.out, HT4.out, HF4.out, HA4.out⟩, HB7.out⟩)
        clear H17 HS4 HR7 HL4 HT4 HF4 HA4 HB7 HY HYN hi0
        go_wp2
        go_roundw
        case rel => exact ⟨i + 1, by omega, by go_num, HI6⟩
        case measure => simp [intOf]; omega
      · obtain ⟨a7, k7, hv, hkv1, hkv2, hgv⟩ := H17.out.form
        obtain ⟨gv, rfl, hgv2, hgv3, hgv4⟩ := hgv (by rw [hs1_len]; omega)
        subst hv
        have hx : (hs1 (i + 1))[i - 1]? = some (hand (i - 1) 1) := by
          unfold hs1
          rw [List.getElem?_map, List.getElem?_range (by omega)]
          rfl
        have cu := H17.out.cell rfl hx
        have hd0 : decide (0 < i) = true := by simp; omega
        have hx1 : (i : Int) - 1 = ((i - 1 : Nat) : Int) := by omega
        have w1x : IntKind.i64.wrap ((i : Int) - 1) = ((i - 1 : Nat) : Int) := by rw [IntWalk.i64_in _ (by omega)]; omega
        have hn1 : (hs1 (i + 1)).length = i + 1 := hs1_len _
        rw [hn1] at hkv1 H17 ⊢
        have hll : (hs1 i).getLast? = some (hand (i - 1) 1) := by
          rw [show i = (i - 1) + 1 by omega, hs1_succ]
          simp
        obtain ⟨u, hu⟩ : ∃ u, u = hand (i - 1) 1 := ⟨_, rfl⟩
        rw [← hu] at cu hll
        have hun : Hn u := by rw [hu]; exact hand_hn (by omega) hM2
        have hnd : (hs1 i ++ [y]).Nodup := by rw [HY.out, ← hs1_succ]; exact hs1_nd _
        have HLL := hid hll
        have HUN := hid hun
        have HND := hid hnd
        clear hx hgv hgv2 hgv3 hgv4 hn1 hll hu hun hnd
        go_wp2_with fail
        refine (HCC.out.pu _ wz _ _ u 0 ⟨1, y⟩ HB7.out HR7.out HUN.out (by simp [Nm]) (by simp [Nm]) HYN.out).mono ?_
        rintro e w5 ⟨hf, s', g, f, er, vg, vf, rfl, htg, htf, hpu, hR5⟩
        obtain ⟨e1, e2, e3⟩ := put_step (s := { top := s.top, A := A', L := addIn s.L 0 y ++ [newOb y 0 (1 : Int).toNat], G := s.G ++ [y] }) HL4.out HND.out HLL.out HT4.out hpu
        simp only at e1 e2 e3
        obtain ⟨ag, cg, hvg, _⟩ := htg.ex
        obtain ⟨af, cf, hvf, _⟩ := htf.ex
        subst hvg hvf
        have HB5 := hid (HB7.out.trans (hf.below HB7.out.size fun b hb => (HS4.out b hb)))
        have HR5 := hid hR5
        have H15 := hid (H17.out.fr hf)
        have HS5 := hid (exS_ge (w' := w5) HS4.out HB7.out.size)
        rw [HL4.out] at e1
        have HL5 := hid e1
        have HA5 := hid e2
        have HT5 := hid e3
        clear hf hR5 e1 e2 e3 hpu htg htf H17 HR7 HB7 HUN HL4 HS4 cu hx1 w1x
        go_wp2_with fail
        refine (HCC.out.dn _ w5 _ _ y HB5.out HR5.out HYN.out).mono ?_
        rintro e w6 ⟨hf, s6, g6, f6, er, vg, vf, rfl, htg, htf, hdn, hR6⟩
        obtain ⟨e1, e2, e3⟩ := down_step HL5.out HND.out HLL.out hdn
        obtain ⟨ag, cg, hvg, _⟩ := htg.ex
        obtain ⟨af, cf, hvf, _⟩ := htf.ex
        subst hvg hvf
        have HI6 := hid (show ChI Rp w (.pointer (some ⟨pb, 0, none⟩)) (.slice (some ⟨gv, 0, none⟩) (i + 1) k7) (i + 1) w6 from ⟨⟨_, _, H15.out.fr hf, exS_ge HS5.out HB5.out.size, hR6, by rw [e1, hs1_succ, HY.out], by rw [e3, HT5.out]; exact HT4.out, by rw [e2, HA5.out]; exact HF4.out, by rw [e2, HA5.out]; exact HA4.out⟩, HB5.out.trans (hf.below HB5.out.size fun b hb => HS5.out b hb)⟩)
        clear hf hR6 e1 e2 e3 hdn htg htf H15 HR5 HB5 HL5 HA5 HT5 HS5 HT4 HF4 HA4 HND HLL HY HYN
        go_wp2
        go_roundw
        case rel => exact ⟨i + 1, by omega, by go_num, HI6⟩
        case measure => simp [intOf]; omega
    · obtain rfl : i = M := by omega
      obtain ⟨S, s, h1, h2, h3, h4, h5, h6, h7⟩ := HIi.out.ex
      have HB := hid HIi.out.b
      obtain ⟨q, hq⟩ : ∃ q : Nat, keep % ((i : Int) + 1) = (q : Int) := ⟨(keep % ((i : Int) + 1)).toNat, by have := Int.emod_nonneg keep (show ((i : Int) + 1) ≠ 0 by omega); omega⟩
      have hqi : q ≤ i := by have := Int.emod_lt_of_pos keep (show (0 : Int) < (i : Int) + 1 by omega); omega
      have HPK := hid (fun W => Pick_any keep ((i : Int) + 1) W HK.out (by omega) (by omega))
      rw [hq] at HPK
      obtain ⟨av, kv, hv, hkv1, hkv2, hgv⟩ := h1.form
      obtain ⟨gv, rfl, hgv2, hgv3, hgv4⟩ := hgv (by rw [hs1_len]; omega)
      subst hv
      have hn1 : (hs1 i).length = i := hs1_len i
      rw [hn1] at h1 hkv1 ⊢
      have H1 := hid h1
      have H2 := hid h2
      have H3 := hid h3
      have H4 := hid h4
      have H5 := hid h5
      have H6 := hid (h6.qk h7)
      clear h1 h2 h3 h4 h5 h6 h7 HIi hq hgv hgv2 hgv3 hgv4 hn1
      go_wp2_with fail
      refine (HPK.out _).mono ?_
      rintro e wp ⟨rfl, hwp⟩
      subst hwp
      clear HPK
      by_cases hql : q < i
      · have hx : (hs1 i)[q]? = some (hand q 1) := by
          unfold hs1
          rw [List.getElem?_map, List.getElem?_range hql]
          rfl
        have hkq : ¬ kv = q := by omega
        have cu := H1.out.cell (hs1_len i).symm hx
        obtain ⟨u, hu⟩ : ∃ u, u = hand q 1 := ⟨_, rfl⟩
        rw [← hu] at cu hx
        have hun : Hn u := by rw [hu]; exact hand_hn hqi hM2
        have HX := hid hx
        have HUN := hid hun
        clear hx hu hun
        go_wp2_with fail
        refine (HCC.out.up S wr _ s u HB.out H3.out HUN.out).mono ?_
        rintro e wu ⟨hf, s', nn, er, rfl, hup, hR5⟩
        obtain ⟨e1, e2⟩ := up_chn H4.out (hs1_nd i) HX.out H5.out hup
        have HE := hid (show ChE Rp w (.pointer (some ⟨pb, 0, none⟩)) (.slice (some ⟨gv, 0, none⟩) i kv) i q wu from ⟨⟨_, s', some q, H1.out.fr hf, exS_ge H2.out HB.out.size, hR5, e1, rfl, by rw [e2]; exact H6.out⟩, HB.out.trans (hf.below HB.out.size H2.out)⟩)
        clear hf hR5 e1 e2 hup cu HX HUN H1 H2 H3 H4 H5 H6 HB
        obtain ⟨S9, s9, K, k1, k2, k3, k4, k5, k6⟩ := HE.out.ex
        have HB9 := hid HE.out.b
        have K1 := hid k1
        have K2 := hid k2
        have K3 := hid k3
        have K4 := hid k4
        have K5 := hid k5
        have K6 := hid k6
        have c0 : wu.cell? ⟨gv, 0, none⟩ = some (.int .u64 (hand 0 1)) := k1.cell (hs1_len i).symm (by obtain ⟨tl, e⟩ := hs1_cons hM1; rw [e]; rfl)
        obtain ⟨h0, hh0⟩ : ∃ h, h = hand 0 1 := ⟨_, rfl⟩
        rw [← hh0] at c0
        have HH0 := hid hh0
        clear k1 k2 k3 k4 k5 k6 hh0 HE
        go_wp2_with fail
        refine (HCC.out.dn S9 wu _ s9 h0 HB9.out K3.out (by rw [HH0.out]; exact hand_hn (Nat.zero_le _) hM2)).mono ?_
        rintro e w6 ⟨hf, s6, g6, f6, er, vg, vf, rfl, htg, htf, hdn, hR6⟩
        rw [HH0.out] at hdn
        obtain ⟨e1, e2, e3, e4⟩ := end_all hM1 hqi K4.out K5.out K6.out hdn
        subst e1 e2 e3
        have hr6 := K1.out.fr hf
        have hb6 : Below w.heap.size w w6 := HB9.out.trans (hf.below HB9.out.size K2.out)
        have htl : Told TU u64v w6 (.slice (some ⟨gv, 0, none⟩) q kv) ((hs1 i).take q) := by
          have := (hr6.cut (hs1_len i).symm hqi).told
          exact this
        have htr : Told TU u64v w6 (.slice (some ⟨gv, q, none⟩) (i - q) (kv - q)) ((hs1 i).drop q) := hr6.tell (hs1_len i).symm hqi (by omega)
        have HTG := hid htg
        have HTL := hid htl
        have HTR := hid htr
        obtain ⟨ag, cg, hvg, _⟩ := htg.ex
        obtain ⟨af, cf, hvf, _⟩ := htf.ex
        rw [List.length_take, hs1_len, Nat.min_eq_left hqi] at hvg
        rw [List.length_nil] at hvf
        subst hvg hvf
        have HAL := hid (fun (W : World) (hb : Below w6.heap.size w6 W) => HCC.out.all _ W _ _ 999 (hb6.trans (hb.mono hb6.size)) (HCC.out.keep hR6 (fun b hb' => hb.block b (HCC.out.lt hR6 b hb')) hb.size) (by omega))
        rw [e4, List.take_of_length_le (by rw [List.length_drop, hs1_len]; omega)] at HAL
        have HB6 := hid hb6
        clear hf hR6 hdn hr6 htl htr hb6 htg htf e4 K1 K2 K3 K4 K5 K6 HB9 HH0 c0
        go_wp2_with fail
        obtain ⟨wd, hwd⟩ : ∃ wd, wd = w6.drew := ⟨_, rfl⟩
        have hd0 : Below w6.heap.size w6 wd := by rw [hwd]; exact (Below.refl _ _).drew
        have HD := hid hd0
        refine D.wp_region_mix [0, 0, 0, 0, 0, 0, 0, 2, 0, 0, 0, 0, 0, 0, 0, 0, 2, 0, 0, 0, 2, 0, 0, 2, 0, 0] (fun _ => True) (by kernel_rfl) (by kernel_rfl) trivial ?_
        rw [← hwd]
        clear hwd hd0
        repeat (first
          | (refine C.wpMix_value (.slice (some ⟨gv, 0, none⟩) q kv) rfl rfl (fun W => exec_to rfl rfl rfl (by omega)) ?_; simp only [Act.put, List.setIfInBounds_toArray, List.set_cons_zero, List.set_cons_succ])
          | (refine C.wpMix_value (.slice (some ⟨gv, q, none⟩) (i - q) (kv - q)) rfl rfl (fun W => exec_from rfl rfl rfl hqi (by omega)) ?_; simp only [Act.put, List.setIfInBounds_toArray, List.set_cons_zero, List.set_cons_succ])
          | (refine' C.wpMix_value _ rfl rfl _ _; rotate_left; (solve | (intro W; go_simp) | (intro W; go_simp; with_reducible rfl)); simp only [Act.put, List.setIfInBounds_toArray, List.set_cons_zero, List.set_cons_succ]))
        refine C.wpMix_call 20 #[.slice ag q cg, .slice (some ⟨gv, 0, none⟩) q kv] (by decide) rfl (by go_simp) ?_
        refine (SameLongs_told wd _ _ _ (HTG.out.below HD.out) (HTL.out.below HD.out)).mono ?_
        rintro e w7 ⟨rfl, hb7⟩
        have HB7 := hid (HD.out.trans (hb7.mono HD.out.size))
        clear hb7
        refine ⟨_, rfl, fun _ => trivial, ?_⟩
        simp only [Act.put, List.setIfInBounds_toArray, List.set_cons_zero, List.set_cons_succ]
        repeat (first
          | (refine C.wpMix_value (.slice (some ⟨gv, 0, none⟩) q kv) rfl rfl (fun W => exec_to rfl rfl rfl (by omega)) ?_; simp only [Act.put, List.setIfInBounds_toArray, List.set_cons_zero, List.set_cons_succ])
          | (refine C.wpMix_value (.slice (some ⟨gv, q, none⟩) (i - q) (kv - q)) rfl rfl (fun W => exec_from rfl rfl rfl hqi (by omega)) ?_; simp only [Act.put, List.setIfInBounds_toArray, List.set_cons_zero, List.set_cons_succ])
          | (refine' C.wpMix_value _ rfl rfl _ _; rotate_left; (solve | (intro W; go_simp) | (intro W; go_simp; with_reducible rfl)); simp only [Act.put, List.setIfInBounds_toArray, List.set_cons_zero, List.set_cons_succ]))
        refine C.wpMix_call 22 #[.pointer (some ⟨pb, 0, none⟩), .int .i64 999] (by decide) rfl (by go_simp) ?_
        refine (HAL.out w7 HB7.out).mono ?_
        rintro e w8 ⟨hb8, v8, rfl, ht8⟩
        have HB8 := hid (HB7.out.trans (hb8.mono HB7.out.size))
        have HS8 := hid (SameLongs_told w8 v8 _ _ ht8 (HTR.out.below HB8.out))
        obtain ⟨a8, c8, hv8, _⟩ := ht8.ex
        rw [List.length_drop, hs1_len] at hv8
        subst hv8
        clear hb8 HAL ht8
        refine ⟨_, rfl, fun _ => trivial, ?_⟩
        simp only [Act.put, List.setIfInBounds_toArray, List.set_cons_zero, List.set_cons_succ]
        repeat (first
          | (refine C.wpMix_value (.slice (some ⟨gv, 0, none⟩) q kv) rfl rfl (fun W => exec_to rfl rfl rfl (by omega)) ?_; simp only [Act.put, List.setIfInBounds_toArray, List.set_cons_zero, List.set_cons_succ])
          | (refine C.wpMix_value (.slice (some ⟨gv, q, none⟩) (i - q) (kv - q)) rfl rfl (fun W => exec_from rfl rfl rfl hqi (by omega)) ?_; simp only [Act.put, List.setIfInBounds_toArray, List.set_cons_zero, List.set_cons_succ])
          | (refine' C.wpMix_value _ rfl rfl _ _; rotate_left; (solve | (intro W; go_simp) | (intro W; go_simp; with_reducible rfl)); simp only [Act.put, List.setIfInBounds_toArray, List.set_cons_zero, List.set_cons_succ]))
        refine C.wpMix_call 20 #[.slice a8 (i - q) c8, .slice (some ⟨gv, q, none⟩) (i - q) (kv - q)] (by decide) rfl (by go_simp) ?_
        refine HS8.out.mono ?_
        rintro e w9 ⟨rfl, hb9⟩
        have HB9 := hid (HB8.out.trans (hb9.mono HB8.out.size))
        clear hb9 HS8
        refine ⟨_, rfl, fun _ => trivial, ?_⟩
        simp only [Act.put, List.setIfInBounds_toArray, List.set_cons_zero, List.set_cons_succ]
        repeat (first
          | (refine C.wpMix_value (.slice (some ⟨gv, 0, none⟩) q kv) rfl rfl (fun W => exec_to rfl rfl rfl (by omega)) ?_; simp only [Act.put, List.setIfInBounds_toArray, List.set_cons_zero, List.set_cons_succ])
          | (refine C.wpMix_value (.slice (some ⟨gv, q, none⟩) (i - q) (kv - q)) rfl rfl (fun W => exec_from rfl rfl rfl hqi (by omega)) ?_; simp only [Act.put, List.setIfInBounds_toArray, List.set_cons_zero, List.set_cons_succ])
          | (refine' C.wpMix_value _ rfl rfl _ _; rotate_left; (solve | (intro W; go_simp) | (intro W; go_simp; with_reducible rfl)); simp only [Act.put, List.setIfInBounds_toArray, List.set_cons_zero, List.set_cons_succ]))
        refine C.wpMix_call 12 #[] (by decide) rfl (by go_simp) ?_
        refine (HCC.out.awk w9 (HB6.out.trans (HB9.out.mono HB6.out.size))).mono ?_
        rintro e wa ⟨hba, rfl⟩
        have HBA := hid ((HB6.out.trans (HB9.out.mono HB6.out.size)).trans (hba.mono (HB6.out.trans (HB9.out.mono HB6.out.size)).size))
        clear hba
        refine ⟨_, rfl, fun _ => trivial, ?_⟩
        simp only [Act.put, List.setIfInBounds_toArray, List.set_cons_zero, List.set_cons_succ]
        repeat (first
          | (refine C.wpMix_value (.slice (some ⟨gv, 0, none⟩) q kv) rfl rfl (fun W => exec_to rfl rfl rfl (by omega)) ?_; simp only [Act.put, List.setIfInBounds_toArray, List.set_cons_zero, List.set_cons_succ])
          | (refine C.wpMix_value (.slice (some ⟨gv, q, none⟩) (i - q) (kv - q)) rfl rfl (fun W => exec_from rfl rfl rfl hqi (by omega)) ?_; simp only [Act.put, List.setIfInBounds_toArray, List.set_cons_zero, List.set_cons_succ])
          | (refine' C.wpMix_value _ rfl rfl _ _; rotate_left; (solve | (intro W; go_simp) | (intro W; go_simp; with_reducible rfl)); simp only [Act.put, List.setIfInBounds_toArray, List.set_cons_zero, List.set_cons_succ]))
        refine C.wpMix_end ?_
        go_wp2
        go_ret
        exact ⟨rfl, HBA.out⟩
      · obtain ⟨wu, hwu⟩ : ∃ wu, wu = wr := ⟨_, rfl⟩
        rw [← hwu] at H1 H3 HB ⊢
        have HE := hid (show ChE Rp w (.pointer (some ⟨pb, 0, none⟩)) (.slice (some ⟨gv, 0, none⟩) i kv) i q wu from ⟨⟨_, s, none, H1.out, H2.out, H3.out, H4.out, by rw [show q = i by omega]; exact (List.take_of_length_le (show (hs1 i).length ≤ i by rw [hs1_len]; exact Nat.le_refl _)).symm, H6.out⟩, HB.out⟩)
        clear H1 H2 H3 H4 H5 H6 HB hwu
        by_cases hkq : kv = q
        · skip
          obtain ⟨S9, s9, K, k1, k2, k3, k4, k5, k6⟩ := HE.out.ex
          have HB9 := hid HE.out.b
          have K1 := hid k1
          have K2 := hid k2
          have K3 := hid k3
          have K4 := hid k4
          have K5 := hid k5
          have K6 := hid k6
          have c0 : wu.cell? ⟨gv, 0, none⟩ = some (.int .u64 (hand 0 1)) := k1.cell (hs1_len i).symm (by obtain ⟨tl, e⟩ := hs1_cons hM1; rw [e]; rfl)
          obtain ⟨h0, hh0⟩ : ∃ h, h = hand 0 1 := ⟨_, rfl⟩
          rw [← hh0] at c0
          have HH0 := hid hh0
          clear k1 k2 k3 k4 k5 k6 hh0 HE
          go_wp2_with fail
          refine (HCC.out.dn S9 wu _ s9 h0 HB9.out K3.out (by rw [HH0.out]; exact hand_hn (Nat.zero_le _) hM2)).mono ?_
          rintro e w6 ⟨hf, s6, g6, f6, er, vg, vf, rfl, htg, htf, hdn, hR6⟩
          rw [HH0.out] at hdn
          obtain ⟨e1, e2, e3, e4⟩ := end_all hM1 hqi K4.out K5.out K6.out hdn
          subst e1 e2 e3
          have hr6 := K1.out.fr hf
          have hb6 : Below w.heap.size w w6 := HB9.out.trans (hf.below HB9.out.size K2.out)
          have htl : Told TU u64v w6 (.slice (some ⟨gv, 0, none⟩) q kv) ((hs1 i).take q) := by
            have := (hr6.cut (hs1_len i).symm hqi).told
            exact this
          have htr : Told TU u64v w6 (.slice (some ⟨gv, 0, none⟩) (i - q) (kv - q)) ((hs1 i).drop q) := hr6.tell (hs1_len i).symm hqi (by omega)
          have HTG := hid htg
          have HTL := hid htl
          have HTR := hid htr
          obtain ⟨ag, cg, hvg, _⟩ := htg.ex
          obtain ⟨af, cf, hvf, _⟩ := htf.ex
          rw [List.length_take, hs1_len, Nat.min_eq_left hqi] at hvg
          rw [List.length_nil] at hvf
          subst hvg hvf
          have HAL := hid (fun (W : World) (hb : Below w6.heap.size w6 W) => HCC.out.all _ W _ _ 999 (hb6.trans (hb.mono hb6.size)) (HCC.out.keep hR6 (fun b hb' => hb.block b (HCC.out.lt hR6 b hb')) hb.size) (by omega))
          rw [e4, List.take_of_length_le (by rw [List.length_drop, hs1_len]; omega)] at HAL
          have HB6 := hid hb6
          clear hf hR6 hdn hr6 htl htr hb6 htg htf e4 K1 K2 K3 K4 K5 K6 HB9 HH0 c0
          go_wp2_with fail
          obtain ⟨wd, hwd⟩ : ∃ wd, wd = w6.drew := ⟨_, rfl⟩
          have hd0 : Below w6.heap.size w6 wd := by rw [hwd]; exact (Below.refl _ _).drew
          have HD := hid hd0
          refine D.wp_region_mix [0, 0, 0, 0, 0, 0, 0, 2, 0, 0, 0, 0, 0, 0, 0, 0, 2, 0, 0, 0, 2, 0, 0, 2, 0, 0] (fun _ => True) (by kernel_rfl) (by kernel_rfl) trivial ?_
          rw [← hwd]
          clear hwd hd0
          repeat (first
            | (refine C.wpMix_value (.slice (some ⟨gv, 0, none⟩) q kv) rfl rfl (fun W => exec_to rfl rfl rfl (by omega)) ?_; simp only [Act.put, List.setIfInBounds_toArray, List.set_cons_zero, List.set_cons_succ])
            | (refine C.wpMix_value (.slice (some ⟨gv, 0, none⟩) (i - q) (kv - q)) rfl rfl (fun W => exec_from rfl rfl rfl hqi (by omega)) ?_; simp only [Act.put, List.setIfInBounds_toArray, List.set_cons_zero, List.set_cons_succ])
            | (refine' C.wpMix_value _ rfl rfl _ _; rotate_left; (solve | (intro W; go_simp) | (intro W; go_simp; with_reducible rfl)); simp only [Act.put, List.setIfInBounds_toArray, List.set_cons_zero, List.set_cons_succ]))
          refine C.wpMix_call 20 #[.slice ag q cg, .slice (some ⟨gv, 0, none⟩) q kv] (by decide) rfl (by go_simp) ?_
          refine (SameLongs_told wd _ _ _ (HTG.out.below HD.out) (HTL.out.below HD.out)).mono ?_
          rintro e w7 ⟨rfl, hb7⟩
          have HB7 := hid (HD.out.trans (hb7.mono HD.out.size))
          clear hb7
          refine ⟨_, rfl, fun _ => trivial, ?_⟩
          simp only [Act.put, List.setIfInBounds_toArray, List.set_cons_zero, List.set_cons_succ]
          repeat (first
            | (refine C.wpMix_value (.slice (some ⟨gv, 0, none⟩) q kv) rfl rfl (fun W => exec_to rfl rfl rfl (by omega)) ?_; simp only [Act.put, List.setIfInBounds_toArray, List.set_cons_zero, List.set_cons_succ])
            | (refine C.wpMix_value (.slice (some ⟨gv, 0, none⟩) (i - q) (kv - q)) rfl rfl (fun W => exec_from rfl rfl rfl hqi (by omega)) ?_; simp only [Act.put, List.setIfInBounds_toArray, List.set_cons_zero, List.set_cons_succ])
            | (refine' C.wpMix_value _ rfl rfl _ _; rotate_left; (solve | (intro W; go_simp) | (intro W; go_simp; with_reducible rfl)); simp only [Act.put, List.setIfInBounds_toArray, List.set_cons_zero, List.set_cons_succ]))
          refine C.wpMix_call 22 #[.pointer (some ⟨pb, 0, none⟩), .int .i64 999] (by decide) rfl (by go_simp) ?_
          refine (HAL.out w7 HB7.out).mono ?_
          rintro e w8 ⟨hb8, v8, rfl, ht8⟩
          have HB8 := hid (HB7.out.trans (hb8.mono HB7.out.size))
          have HS8 := hid (SameLongs_told w8 v8 _ _ ht8 (HTR.out.below HB8.out))
          obtain ⟨a8, c8, hv8, _⟩ := ht8.ex
          rw [List.length_drop, hs1_len] at hv8
          subst hv8
          clear hb8 HAL ht8
          refine ⟨_, rfl, fun _ => trivial, ?_⟩
          simp only [Act.put, List.setIfInBounds_toArray, List.set_cons_zero, List.set_cons_succ]
          repeat (first
            | (refine C.wpMix_value (.slice (some ⟨gv, 0, none⟩) q kv) rfl rfl (fun W => exec_to rfl rfl rfl (by omega)) ?_; simp only [Act.put, List.setIfInBounds_toArray, List.set_cons_zero, List.set_cons_succ])
            | (refine C.wpMix_value (.slice (some ⟨gv, 0, none⟩) (i - q) (kv - q)) rfl rfl (fun W => exec_from rfl rfl rfl hqi (by omega)) ?_; simp only [Act.put, List.setIfInBounds_toArray, List.set_cons_zero, List.set_cons_succ])
            | (refine' C.wpMix_value _ rfl rfl _ _; rotate_left; (solve | (intro W; go_simp) | (intro W; go_simp; with_reducible rfl)); simp only [Act.put, List.setIfInBounds_toArray, List.set_cons_zero, List.set_cons_succ]))
          refine C.wpMix_call 20 #[.slice a8 (i - q) c8, .slice (some ⟨gv, 0, none⟩) (i - q) (kv - q)] (by decide) rfl (by go_simp) ?_
          refine HS8.out.mono ?_
          rintro e w9 ⟨rfl, hb9⟩
          have HB9 := hid (HB8.out.trans (hb9.mono HB8.out.size))
          clear hb9 HS8
          refine ⟨_, rfl, fun _ => trivial, ?_⟩
          simp only [Act.put, List.setIfInBounds_toArray, List.set_cons_zero, List.set_cons_succ]
          repeat (first
            | (refine C.wpMix_value (.slice (some ⟨gv, 0, none⟩) q kv) rfl rfl (fun W => exec_to rfl rfl rfl (by omega)) ?_; simp only [Act.put, List.setIfInBounds_toArray, List.set_cons_zero, List.set_cons_succ])
            | (refine C.wpMix_value (.slice (some ⟨gv, 0, none⟩) (i - q) (kv - q)) rfl rfl (fun W => exec_from rfl rfl rfl hqi (by omega)) ?_; simp only [Act.put, List.setIfInBounds_toArray, List.set_cons_zero, List.set_cons_succ])
            | (refine' C.wpMix_value _ rfl rfl _ _; rotate_left; (solve | (intro W; go_simp) | (intro W; go_simp; with_reducible rfl)); simp only [Act.put, List.setIfInBounds_toArray, List.set_cons_zero, List.set_cons_succ]))
          refine C.wpMix_call 12 #[] (by decide) rfl (by go_simp) ?_
          refine (HCC.out.awk w9 (HB6.out.trans (HB9.out.mono HB6.out.size))).mono ?_
          rintro e wa ⟨hba, rfl⟩
          have HBA := hid ((HB6.out.trans (HB9.out.mono HB6.out.size)).trans (hba.mono (HB6.out.trans (HB9.out.mono HB6.out.size)).size))
          clear hba
          refine ⟨_, rfl, fun _ => trivial, ?_⟩
          simp only [Act.put, List.setIfInBounds_toArray, List.set_cons_zero, List.set_cons_succ]
          repeat (first
            | (refine C.wpMix_value (.slice (some ⟨gv, 0, none⟩) q kv) rfl rfl (fun W => exec_to rfl rfl rfl (by omega)) ?_; simp only [Act.put, List.setIfInBounds_toArray, List.set_cons_zero, List.set_cons_succ])
            | (refine C.wpMix_value (.slice (some ⟨gv, 0, none⟩) (i - q) (kv - q)) rfl rfl (fun W => exec_from rfl rfl rfl hqi (by omega)) ?_; simp only [Act.put, List.setIfInBounds_toArray, List.set_cons_zero, List.set_cons_succ])
            | (refine' C.wpMix_value _ rfl rfl _ _; rotate_left; (solve | (intro W; go_simp) | (intro W; go_simp; with_reducible rfl)); simp only [Act.put, List.setIfInBounds_toArray, List.set_cons_zero, List.set_cons_succ]))
          refine C.wpMix_end ?_
          go_wp2
          go_ret
          exact ⟨rfl, HBA.out⟩
        · skip
          obtain ⟨S9, s9, K, k1, k2, k3, k4, k5, k6⟩ := HE.out.ex
          have HB9 := hid HE.out.b
          have K1 := hid k1
          have K2 := hid k2
          have K3 := hid k3
          have K4 := hid k4
          have K5 := hid k5
          have K6 := hid k6
          have c0 : wu.cell? ⟨gv, 0, none⟩ = some (.int .u64 (hand 0 1)) := k1.cell (hs1_len i).symm (by obtain ⟨tl, e⟩ := hs1_cons hM1; rw [e]; rfl)
          obtain ⟨h0, hh0⟩ : ∃ h, h = hand 0 1 := ⟨_, rfl⟩
          rw [← hh0] at c0
          have HH0 := hid hh0
          clear k1 k2 k3 k4 k5 k6 hh0 HE
          go_wp2_with fail
          refine (HCC.out.dn S9 wu _ s9 h0 HB9.out K3.out (by rw [HH0.out]; exact hand_hn (Nat.zero_le _) hM2)).mono ?_
          rintro e w6 ⟨hf, s6, g6, f6, er, vg, vf, rfl, htg, htf, hdn, hR6⟩
          rw [HH0.out] at hdn
          obtain ⟨e1, e2, e3, e4⟩ := end_all hM1 hqi K4.out K5.out K6.out hdn
          subst e1 e2 e3
          have hr6 := K1.out.fr hf
          have hb6 : Below w.heap.size w w6 := HB9.out.trans (hf.below HB9.out.size K2.out)
          have htl : Told TU u64v w6 (.slice (some ⟨gv, 0, none⟩) q kv) ((hs1 i).take q) := by
            have := (hr6.cut (hs1_len i).symm hqi).told
            exact this
          have htr : Told TU u64v w6 (.slice (some ⟨gv, q, none⟩) (i - q) (kv - q)) ((hs1 i).drop q) := hr6.tell (hs1_len i).symm hqi (by omega)
          have HTG := hid htg
          have HTL := hid htl
          have HTR := hid htr
          obtain ⟨ag, cg, hvg, _⟩ := htg.ex
          obtain ⟨af, cf, hvf, _⟩ := htf.ex
          rw [List.length_take, hs1_len, Nat.min_eq_left hqi] at hvg
          rw [List.length_nil] at hvf
          subst hvg hvf
          have HAL := hid (fun (W : World) (hb : Below w6.heap.size w6 W) => HCC.out.all _ W _ _ 999 (hb6.trans (hb.mono hb6.size)) (HCC.out.keep hR6 (fun b hb' => hb.block b (HCC.out.lt hR6 b hb')) hb.size) (by omega))
          rw [e4, List.take_of_length_le (by rw [List.length_drop, hs1_len]; omega)] at HAL
          have HB6 := hid hb6
          clear hf hR6 hdn hr6 htl htr hb6 htg htf e4 K1 K2 K3 K4 K5 K6 HB9 HH0 c0
          go_wp2_with fail
          obtain ⟨wd, hwd⟩ : ∃ wd, wd = w6.drew := ⟨_, rfl⟩
          have hd0 : Below w6.heap.size w6 wd := by rw [hwd]; exact (Below.refl _ _).drew
          have HD := hid hd0
          refine D.wp_region_mix [0, 0, 0, 0, 0, 0, 0, 2, 0, 0, 0, 0, 0, 0, 0, 0, 2, 0, 0, 0, 2, 0, 0, 2, 0, 0] (fun _ => True) (by kernel_rfl) (by kernel_rfl) trivial ?_
          rw [← hwd]
          clear hwd hd0
          repeat (first
            | (refine C.wpMix_value (.slice (some ⟨gv, 0, none⟩) q kv) rfl rfl (fun W => exec_to rfl rfl rfl (by omega)) ?_; simp only [Act.put, List.setIfInBounds_toArray, List.set_cons_zero, List.set_cons_succ])
            | (refine C.wpMix_value (.slice (some ⟨gv, q, none⟩) (i - q) (kv - q)) rfl rfl (fun W => exec_from rfl rfl rfl hqi (by omega)) ?_; simp only [Act.put, List.setIfInBounds_toArray, List.set_cons_zero, List.set_cons_succ])
            | (refine' C.wpMix_value _ rfl rfl _ _; rotate_left; (solve | (intro W; go_simp) | (intro W; go_simp; with_reducible rfl)); simp only [Act.put, List.setIfInBounds_toArray, List.set_cons_zero, List.set_cons_succ]))
          refine C.wpMix_call 20 #[.slice ag q cg, .slice (some ⟨gv, 0, none⟩) q kv] (by decide) rfl (by go_simp) ?_
          refine (SameLongs_told wd _ _ _ (HTG.out.below HD.out) (HTL.out.below HD.out)).mono ?_
          rintro e w7 ⟨rfl, hb7⟩
          have HB7 := hid (HD.out.trans (hb7.mono HD.out.size))
          clear hb7
          refine ⟨_, rfl, fun _ => trivial, ?_⟩
          simp only [Act.put, List.setIfInBounds_toArray, List.set_cons_zero, List.set_cons_succ]
          repeat (first
            | (refine C.wpMix_value (.slice (some ⟨gv, 0, none⟩) q kv) rfl rfl (fun W => exec_to rfl rfl rfl (by omega)) ?_; simp only [Act.put, List.setIfInBounds_toArray, List.set_cons_zero, List.set_cons_succ])
            | (refine C.wpMix_value (.slice (some ⟨gv, q, none⟩) (i - q) (kv - q)) rfl rfl (fun W => exec_from rfl rfl rfl hqi (by omega)) ?_; simp only [Act.put, List.setIfInBounds_toArray, List.set_cons_zero, List.set_cons_succ])
            | (refine' C.wpMix_value _ rfl rfl _ _; rotate_left; (solve | (intro W; go_simp) | (intro W; go_simp; with_reducible rfl)); simp only [Act.put, List.setIfInBounds_toArray, List.set_cons_zero, List.set_cons_succ]))
          refine C.wpMix_call 22 #[.pointer (some ⟨pb, 0, none⟩), .int .i64 999] (by decide) rfl (by go_simp) ?_
          refine (HAL.out w7 HB7.out).mono ?_
          rintro e w8 ⟨hb8, v8, rfl, ht8⟩
          have HB8 := hid (HB7.out.trans (hb8.mono HB7.out.size))
          have HS8 := hid (SameLongs_told w8 v8 _ _ ht8 (HTR.out.below HB8.out))
          obtain ⟨a8, c8, hv8, _⟩ := ht8.ex
          rw [List.length_drop, hs1_len] at hv8
          subst hv8
          clear hb8 HAL ht8
          refine ⟨_, rfl, fun _ => trivial, ?_⟩
          simp only [Act.put, List.setIfInBounds_toArray, List.set_cons_zero, List.set_cons_succ]
          repeat (first
            | (refine C.wpMix_value (.slice (some ⟨gv, 0, none⟩) q kv) rfl rfl (fun W => exec_to rfl rfl rfl (by omega)) ?_; simp only [Act.put, List.setIfInBounds_toArray, List.set_cons_zero, List.set_cons_succ])
            | (refine C.wpMix_value (.slice (some ⟨gv, q, none⟩) (i - q) (kv - q)) rfl rfl (fun W => exec_from rfl rfl rfl hqi (by omega)) ?_; simp only [Act.put, List.setIfInBounds_toArray, List.set_cons_zero, List.set_cons_succ])
            | (refine' C.wpMix_value _ rfl rfl _ _; rotate_left; (solve | (intro W; go_simp) | (intro W; go_simp; with_reducible rfl)); simp only [Act.put, List.setIfInBounds_toArray, List.set_cons_zero, List.set_cons_succ]))
          refine C.wpMix_call 20 #[.slice a8 (i - q) c8, .slice (some ⟨gv, q, none⟩) (i - q) (kv - q)] (by decide) rfl (by go_simp) ?_
          refine HS8.out.mono ?_
          rintro e w9 ⟨rfl, hb9⟩
          have HB9 := hid (HB8.out.trans (hb9.mono HB8.out.size))
          clear hb9 HS8
          refine ⟨_, rfl, fun _ => trivial, ?_⟩
          simp only [Act.put, List.setIfInBounds_toArray, List.set_cons_zero, List.set_cons_succ]
          repeat (first
            | (refine C.wpMix_value (.slice (some ⟨gv, 0, none⟩) q kv) rfl rfl (fun W => exec_to rfl rfl rfl (by omega)) ?_; simp only [Act.put, List.setIfInBounds_toArray, List.set_cons_zero, List.set_cons_succ])
            | (refine C.wpMix_value (.slice (some ⟨gv, q, none⟩) (i - q) (kv - q)) rfl rfl (fun W => exec_from rfl rfl rfl hqi (by omega)) ?_; simp only [Act.put, List.setIfInBounds_toArray, List.set_cons_zero, List.set_cons_succ])
            | (refine' C.wpMix_value _ rfl rfl _ _; rotate_left; (solve | (intro W; go_simp) | (intro W; go_simp; with_reducible rfl)); simp only [Act.put, List.setIfInBounds_toArray, List.set_cons_zero, List.set_cons_succ]))
          refine C.wpMix_call 12 #[] (by decide) rfl (by go_simp) ?_
          refine (HCC.out.awk w9 (HB6.out.trans (HB9.out.mono HB6.out.size))).mono ?_
          rintro e wa ⟨hba, rfl⟩
          have HBA := hid ((HB6.out.trans (HB9.out.mono HB6.out.size)).trans (hba.mono (HB6.out.trans (HB9.out.mono HB6.out.size)).size))
          clear hba
          refine ⟨_, rfl, fun _ => trivial, ?_⟩
          simp only [Act.put, List.setIfInBounds_toArray, List.set_cons_zero, List.set_cons_succ]
          repeat (first
            | (refine C.wpMix_value (.slice (some ⟨gv, 0, none⟩) q kv) rfl rfl (fun W => exec_to rfl rfl rfl (by omega)) ?_; simp only [Act.put, List.setIfInBounds_toArray, List.set_cons_zero, List.set_cons_succ])
            | (refine C.wpMix_value (.slice (some ⟨gv, q, none⟩) (i - q) (kv - q)) rfl rfl (fun W => exec_from rfl rfl rfl hqi (by omega)) ?_; simp only [Act.put, List.setIfInBounds_toArray, List.set_cons_zero, List.set_cons_succ])
            | (refine' C.wpMix_value _ rfl rfl _ _; rotate_left; (solve | (intro W; go_simp) | (intro W; go_simp; with_reducible rfl)); simp only [Act.put, List.setIfInBounds_toArray, List.set_cons_zero, List.set_cons_succ]))
          refine C.wpMix_end ?_
          go_wp2
          go_ret
          exact ⟨rfl, HBA.out⟩
end Go.Proofs.Ytceokibalphgpaa
