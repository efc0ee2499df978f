/-
  LeaseHeard's walk.
-/
import Derived.Test.YtbdhjkdojgdhbaaLsK
namespace Go.Proofs.Ytbdhjkdojgdhbaa
open Go Go.ChangeShapes Go.WideShapes Go.ChangeAt Go.RowKit

section
variable {Rp : World → (Nat → Prop) → Value → Lz → Prop}
set_option maxRecDepth 100000 in
set_option maxHeartbeats 16000000 in
theorem LeaseHeard_any (HC : LsC Rp) (w : World) (a b : Int) (gd : Option Addr) (gc : Nat) (gs : List Int) (ad : Option Addr) (c : Nat) (l : List OAct) (ha : Nm a) (hb : Nm b) (hg : RwN w w.heap.size gd gs) (hgl : gs.length ≤ 9223372036854775807) (hl : RwA w w.heap.size ad l) (hll : l.length ≤ 9223372036854775807) :
    Calls Try.prog 5 #[iv a, iv b, .slice gd gs.length gc, .slice ad l.length c] w fun e w' => e = .returned (.bool true) ∧ Below w.heap.size w w' := by
  obtain ⟨aa, haa⟩ : ∃ aa, aa = 1 + a % 9 := ⟨_, rfl⟩
  obtain ⟨bb, hbb⟩ : ∃ bb, bb = 1 + b % 9 := ⟨_, rfl⟩
  have hab : 1 ≤ aa ∧ aa ≤ 9 ∧ 1 ≤ bb ∧ bb ≤ 9 := by
    have := Int.emod_nonneg a (b := 9) (by decide)
    have := Int.emod_lt_of_pos a (b := 9) (by decide)
    have := Int.emod_nonneg b (b := 9) (by decide)
    have := Int.emod_lt_of_pos b (b := 9) (by decide)
    omega
  have hpa := Pick_any a 9 w ha (by decide) (by decide)
  have hpb := Pick_any b 9 w hb (by decide) (by decide)
  rw [show a % 9 = aa - 1 by omega] at hpa
  rw [show b % 9 = bb - 1 by omega] at hpb
  have HPA := hid hpa
  have HPB := hid hpb
  have wa : IntKind.i64.wrap (1 + (aa - 1)) = aa := by rw [show 1 + (aa - 1) = aa by omega]; exact IntWalk.i64_in _ (by omega)
  have wb : IntKind.i64.wrap (1 + (bb - 1)) = bb := by rw [show 1 + (bb - 1) = bb by omega]; exact IntWalk.i64_in _ (by omega)
  obtain ⟨P, hP⟩ : ∃ P, P = aa * bb := ⟨_, rfl⟩
  have hP1 : 1 ≤ P ∧ P ≤ 81 := by
    rw [hP]
    exact ⟨by have := Int.mul_le_mul hab.1 hab.2.2.1 (by decide) (by omega); simpa using this, by have := Int.mul_le_mul hab.2.1 hab.2.2.2 (by omega) (by decide); simpa using this⟩
  have wP : IntKind.i64.wrap (aa * bb) = P := by rw [← hP]; exact IntWalk.i64_in _ (by omega)
  have HN := hid (HC.new w aa bb)
  simp only [if_pos (show 1 ≤ aa ∧ aa ≤ 1000 ∧ 1 ≤ bb ∧ bb ≤ 1000 by omega), ← hP] at HN
  have HAW := hid (fun W => awakeO_any HC W)
  have HCC := hid HC
  have HL := hid hl
  have HG := hid hg
  obtain ⟨n, hn⟩ : ∃ n, n = l.length := ⟨_, rfl⟩
  obtain ⟨gn, hgn⟩ : ∃ gn, gn = gs.length := ⟨_, rfl⟩
  rw [← hn] at hll ⊢
  rw [← hgn] at hgl ⊢
  have HNN := hid hn
  have HGN := hid hgn
  clear HC hl hg hn hgn haa hbb hpa hpb hP ha hb
  go_enter Try.func5, Try.ntmps5
  go_upto_region 3 with (first
    | (go_at_call 16; refine HPA.out.mono ?_; rintro e w1 ⟨rfl, hw⟩; subst hw; clear HPA)
    | (go_at_call 16; refine HPB.out.mono ?_; rintro e w1 ⟨rfl, hw⟩; subst hw; clear HPB)
    | (go_at_call 7; refine HN.out.mono ?_; rintro e w1 ⟨hb1, v, S1, rfl, hS1, hR1⟩)
    | fail)
  obtain ⟨pv, rfl⟩ := HCC.out.ptr hR1
  have HJ : RowKit.Hid (Calls Try.prog 17 #[.pointer (some ⟨pv, 0, none⟩), .int .u64 7] w1 fun e w' => e = .returned (.bool true) ∧ HeN Rp w (.pointer (some ⟨pv, 0, none⟩)) P 1 w') := by
    refine (HCC.out.join (N := 0) hR1 ⟨by simp [Rise], by simp, Int.le_refl _, by simp, by show 0 ≤ P ∧ P ≤ 1000000; omega, fun x hx => by simp at hx⟩ (by omega) 7 (by unfold Hn; decide)).mono ?_
    rintro e w' ⟨h1, h2, h3⟩
    refine ⟨h1, Lz.join ⟨P, 0, []⟩ 7, 1, by omega, ⟨_, h2, fun k hk => ?_⟩, hb1.trans (h3.below (B := w.heap.size) hb1.size hS1), ZOk.join ⟨by simp [Rise], by simp, Int.le_refl _, by simp, by show 0 ≤ P ∧ P ≤ 1000000; omega, fun x hx => by simp at hx⟩ 7, rfl, mem_joinS⟩
    rcases hk with e | e
    · exact hS1 k e
    · exact Nat.le_trans hb1.size e.1
  clear HN hR1 hS1 hb1 wa wb
  go_upto_region 5 with (first
    | (go_at_call 17; refine HJ.out.mono ?_; rintro e w2 ⟨rfl, h2⟩; have H2 := hid h2; clear h2 HJ)
    | fail)
  go_wp2_with fail
  go_loopw [11] (fun i wr => ∃ (k : Nat), k ≤ gn ∧ k ≤ 60 ∧ i = .int .i64 k ∧ RowKit.Hid (HeN Rp w (.pointer (some ⟨pv, 0, none⟩)) P (1 + k * 100) wr)) (fun i _ => 60 - (intOf i).toNat)
  case atStart => exact ⟨0, by omega, by omega, rfl, H2⟩
  case round =>
    clear H2
    obtain ⟨k, hkn, hk6, rfl, HI⟩ := hrel
    by_cases hgo : k < gn ∧ k < 60
    · obtain ⟨hg1, hg2⟩ := hgo
      have d60 : decide ((k : Int) < 60) = true := decide_eq_true (by omega)
      have hx : gs[k]? = some (gs[k]'(by rw [← HGN.out]; exact hg1)) := List.getElem?_eq_getElem _
      generalize gs[k]'(by rw [← HGN.out]; exact hg1) = g at hx
      obtain ⟨gb, go_, rfl, hgb⟩ := HG.out.at_ (by rw [← HGN.out]; omega)
      have HGA := hid (show ∀ W, Below w.heap.size w W → W.cell? ⟨gb, go_ + k, none⟩ = some (iv g) from fun W hW => by have := (HG.out.below hW).rows gb go_ rfl k g hx 0 _ rfl; rwa [Nat.mul_one] at this)
      have HGN2 := hid (HG.out.ok g (List.mem_of_getElem? hx))
      obtain ⟨G, hG⟩ : ∃ G, G = g % P := ⟨_, rfl⟩
      have HGE := hid hG
      have HGG := hid (show 0 ≤ G ∧ G < P by rw [hG]; exact ⟨Int.emod_nonneg _ (by omega), Int.emod_lt_of_pos _ (by omega)⟩)
      clear hx hG
      by_cases hkn2 : k < n
      · have hy : l[k]? = some (l[k]'(by rw [← HNN.out]; exact hkn2)) := List.getElem?_eq_getElem _
        generalize l[k]'(by rw [← HNN.out]; exact hkn2) = x at hy
        obtain ⟨ab, ao, rfl, hab2⟩ := HL.out.at_ (by rw [← HNN.out]; omega)
        have e1 : wr.cell? ⟨ab, ao + k * 2 + 1, none⟩ = some (.int .u64 x.2) := (HL.out.below HI.out.bel).rows ab ao rfl k x hy 1 _ rfl
        have hox := (HL.out.ok x (List.mem_of_getElem? hy)).2
        clear hy
        by_cases h7 : x.2 = 7
        · rw [h7] at e1
          have HQ := hid (HI.out.up (M2 := 2 + k * 100) (by omega))
          clear HI hox h7
          go_upto_region 10 with fail
          go_wp2_with fail
          go_loopw [12] (fun j wi => ∃ q : Nat, (q : Int) ≤ G ∧ j = .int .i64 q ∧ RowKit.Hid (HeQ Rp w (.pointer (some ⟨pv, 0, none⟩)) P (2 + k * 100 + q) q wi)) (fun j _ => G.toNat - (intOf j).toNat)
          case atStart => exact ⟨0, HGG.out.1, rfl, hid HQ.out.start⟩
          case round =>
            clear HQ
            obtain ⟨q, hq, rfl, HI2⟩ := hrel
            have eg := HGA.out _ HI2.out.bel
            have HPK := hid (Pick_any g P wr HGN2.out (by omega) (by omega))
            rw [← HGE.out] at HPK
            have hG9 := HGG.out.2
            by_cases hqG : (q : Int) < G
            · have dq : decide ((q : Int) < G) = true := decide_eq_true hqG
              have HTK := hid (HI2.out.tick HCC.out (by omega) (by omega))
              clear HI2
              go_wp2_with (first
                | (go_at_call 16; refine HPK.out.mono ?_; rintro e w5 ⟨rfl, hw⟩; subst hw; clear HPK)
                | (go_at_call 18; refine HTK.out.mono ?_; rintro e w6 ⟨⟨u, rfl⟩, h6⟩; have H6 := hid h6; clear h6 HTK eg)
                | fail)
              go_roundw
              case rel => exact ⟨q + 1, by omega, by go_num, hid (by have := H6.out; rw [show 2 + k * 100 + q + 1 = 2 + k * 100 + (q + 1) by omega] at this; exact_mod_cast this)⟩
              case measure => simp [intOf]; omega
            · have dq : decide ((q : Int) < G) = false := decide_eq_false hqG
              have HPG := hid (HI2.out.ping HCC.out (by omega))
              clear HI2
              go_wp2_with (first
                | (go_at_call 16; refine HPK.out.mono ?_; rintro e w5 ⟨rfl, hw⟩; subst hw; clear HPK)
                | (go_at_call 19; refine HPG.out.mono ?_; rintro e w6 ⟨rfl, h6⟩; have H6 := hid h6; clear h6 HPG eg)
                | fail)
              go_roundw
              case rel => exact ⟨k + 1, by omega, by omega, by go_num, hid (H6.out.up (by omega))⟩
              case measure => simp [intOf]; omega
        · have HJ := hid (HI.out.join HCC.out (by omega) hox h7)
          have d7 : (x.2 != 7) = true := by simpa using h7
          clear HI hox h7
          go_upto_region 10 with (first
            | (go_at_call 17; refine HJ.out.mono ?_; rintro e w4 ⟨⟨bj, rfl⟩, h4⟩; have HQ := hid (h4.up (M2 := 2 + k * 100) (by omega)); clear h4 HJ e1)
            | fail)
          go_wp2_with fail
          go_loopw [12] (fun j wi => ∃ q : Nat, (q : Int) ≤ G ∧ j = .int .i64 q ∧ RowKit.Hid (HeQ Rp w (.pointer (some ⟨pv, 0, none⟩)) P (2 + k * 100 + q) q wi)) (fun j _ => G.toNat - (intOf j).toNat)
          case atStart => exact ⟨0, HGG.out.1, rfl, hid HQ.out.start⟩
          case round =>
            clear HQ
            obtain ⟨q, hq, rfl, HI2⟩ := hrel
            have eg := HGA.out _ HI2.out.bel
            have HPK := hid (Pick_any g P wr HGN2.out (by omega) (by omega))
            rw [← HGE.out] at HPK
            have hG9 := HGG.out.2
            by_cases hqG : (q : Int) < G
            · have dq : decide ((q : Int) < G) = true := decide_eq_true hqG
              have HTK := hid (HI2.out.tick HCC.out (by omega) (by omega))
              clear HI2
              go_wp2_with (first
                | (go_at_call 16; refine HPK.out.mono ?_; rintro e w5 ⟨rfl, hw⟩; subst hw; clear HPK)
                | (go_at_call 18; refine HTK.out.mono ?_; rintro e w6 ⟨⟨u, rfl⟩, h6⟩; have H6 := hid h6; clear h6 HTK eg)
                | fail)
              go_roundw
              case rel => exact ⟨q + 1, by omega, by go_num, hid (by have := H6.out; rw [show 2 + k * 100 + q + 1 = 2 + k * 100 + (q + 1) by omega] at this; exact_mod_cast this)⟩
              case measure => simp [intOf]; omega
            · have dq : decide ((q : Int) < G) = false := decide_eq_false hqG
              have HPG := hid (HI2.out.ping HCC.out (by omega))
              clear HI2
              go_wp2_with (first
                | (go_at_call 16; refine HPK.out.mono ?_; rintro e w5 ⟨rfl, hw⟩; subst hw; clear HPK)
                | (go_at_call 19; refine HPG.out.mono ?_; rintro e w6 ⟨rfl, h6⟩; have H6 := hid h6; clear h6 HPG eg)
                | fail)
              go_roundw
              case rel => exact ⟨k + 1, by omega, by omega, by go_num, hid (H6.out.up (by omega))⟩
              case measure => simp [intOf]; omega
      · have HQ := hid (HI.out.up (M2 := 2 + k * 100) (by omega))
        clear HI
        go_upto_region 10 with fail
        go_wp2_with fail
        go_loopw [12] (fun j wi => ∃ q : Nat, (q : Int) ≤ G ∧ j = .int .i64 q ∧ RowKit.Hid (HeQ Rp w (.pointer (some ⟨pv, 0, none⟩)) P (2 + k * 100 + q) q wi)) (fun j _ => G.toNat - (intOf j).toNat)
        case atStart => exact ⟨0, HGG.out.1, rfl, hid HQ.out.start⟩
        case round =>
          clear HQ
          obtain ⟨q, hq, rfl, HI2⟩ := hrel
          have eg := HGA.out _ HI2.out.bel
          have HPK := hid (Pick_any g P wr HGN2.out (by omega) (by omega))
          rw [← HGE.out] at HPK
          have hG9 := HGG.out.2
          by_cases hqG : (q : Int) < G
          · have dq : decide ((q : Int) < G) = true := decide_eq_true hqG
            have HTK := hid (HI2.out.tick HCC.out (by omega) (by omega))
            clear HI2
            go_wp2_with (first
              | (go_at_call 16; refine HPK.out.mono ?_; rintro e w5 ⟨rfl, hw⟩; subst hw; clear HPK)
              | (go_at_call 18; refine HTK.out.mono ?_; rintro e w6 ⟨⟨u, rfl⟩, h6⟩; have H6 := hid h6; clear h6 HTK eg)
              | fail)
            go_roundw
            case rel => exact ⟨q + 1, by omega, by go_num, hid (by have := H6.out; rw [show 2 + k * 100 + q + 1 = 2 + k * 100 + (q + 1) by omega] at this; exact_mod_cast this)⟩
            case measure => simp [intOf]; omega
          · have dq : decide ((q : Int) < G) = false := decide_eq_false hqG
            have HPG := hid (HI2.out.ping HCC.out (by omega))
            clear HI2
            go_wp2_with (first
              | (go_at_call 16; refine HPK.out.mono ?_; rintro e w5 ⟨rfl, hw⟩; subst hw; clear HPK)
              | (go_at_call 19; refine HPG.out.mono ?_; rintro e w6 ⟨rfl, h6⟩; have H6 := hid h6; clear h6 HPG eg)
              | fail)
            go_roundw
            case rel => exact ⟨k + 1, by omega, by omega, by go_num, hid (H6.out.up (by omega))⟩
            case measure => simp [intOf]; omega
    · have hlt2 : k = gn ∨ (k = 60 ∧ 60 < gn) := by omega
      have HQ := hid (HI.out.start)
      obtain ⟨M, hM⟩ : ∃ M, M = 1 + k * 100 := ⟨_, rfl⟩
      rw [← hM] at HQ
      have hM2 : M ≤ 6001 := by omega
      clear HI hgo hM
      rcases hlt2 with rfl | ⟨hk60, hn3⟩
      · go_wp2_with fail
        go_loopw [13] (fun j wi => ∃ q : Nat, 1 ≤ q ∧ (q : Int) ≤ P ∧ j = .int .i64 q ∧ RowKit.Hid (HeQ Rp w (.pointer (some ⟨pv, 0, none⟩)) P (M + q) ((q : Int) - 1) wi)) (fun j _ => P.toNat - (intOf j).toNat)
        case atStart => exact ⟨1, Nat.le_refl _, hP1.1, rfl, hid (by have := HQ.out.up (M2 := M + 1) (by omega); simpa using this)⟩
        case round =>
          clear HQ
          obtain ⟨q, hq1, hq, rfl, HI2⟩ := hrel
          by_cases hqP : (q : Int) < P
          · have dq : decide ((q : Int) < P) = true := decide_eq_true hqP
            have hwq := IntWalk.i64_in (P - (q : Int)) (by omega)
            have HTK := hid (HI2.out.tick HCC.out (by omega) (by omega))
            rw [show (q : Int) - 1 + 1 = (q : Int) by omega] at HTK
            clear HI2
            go_wp2_with (first
              | (go_at_call 18; refine HTK.out.mono ?_; rintro e w6 ⟨⟨u, rfl⟩, h6⟩; have HLF := hid (h6.left HCC.out (by omega)); clear h6 HTK)
              | (go_at_call 12; refine HLF.out.mono ?_; rintro e w7 ⟨rfl, h7⟩; have H7 := hid h7; clear h7 HLF)
              | fail)
            go_roundw
            case rel => exact ⟨q + 1, by omega, by omega, by go_num, hid (by have := H7.out; rw [show M + q + 1 = M + (q + 1) by omega] at this; rw [show ((q + 1 : Nat) : Int) - 1 = (q : Int) by omega]; exact this)⟩
            case measure => simp [intOf]; omega
          · have dq : decide ((q : Int) < P) = false := decide_eq_false hqP
            have HOV := hid (HI2.out.over HCC.out (by omega) (by omega))
            clear HI2
            go_upto_region 24 with (first
              | (go_at_call 18; refine HOV.out.mono ?_; rintro e w6 ⟨⟨u, xs, rfl, ht, h7⟩, hG⟩)
              | fail)
            obtain ⟨ua, uc, rfl, huc, huc2, hat⟩ := ht.ex
            have h77 : xs.any (· == 7) = true := List.any_eq_true.2 ⟨7, h7, by decide⟩
            obtain ⟨N, hN⟩ : ∃ N, N = xs.length := ⟨_, rfl⟩
            rw [← hN] at huc hat ⊢
            have HAT := hid hat
            have HNX := hid hN
            have H77 := hid h77
            have HGG := hid hG
            clear HOV ht h7 hG hat hN h77
            go_wp2_with fail
            go_loopw [17, 18] (fun f j wi => ∃ q : Nat, q ≤ N ∧ j = .int .i64 q ∧ f = .bool ((xs.take q).any (· == 7)) ∧ wi = w6) (fun _ j _ => N - (intOf j).toNat)
            case atStart => exact ⟨0, by omega, rfl, by simp, rfl⟩
            case round =>
              obtain ⟨q2, hq2, rfl, rfl, hwr⟩ := hrel
              subst hwr
              by_cases hqN : q2 < N
              · have hx : xs[q2]? = some (xs[q2]'(by rw [← HNX.out]; exact hqN)) := List.getElem?_eq_getElem _
                generalize xs[q2]'(by rw [← HNX.out]; exact hqN) = x at hx
                obtain ⟨ub, uo, rfl, hub, hcs⟩ := HAT.out (by omega)
                have cx := hcs q2 (.int .u64 x) (by rw [List.getElem?_map, hx]; rfl)
                have hs : (xs.take (q2 + 1)).any (· == 7) = ((xs.take q2).any (· == 7) || x == 7) := by rw [List.take_add_one, hx, List.any_append]; simp
                have HS := hid hs
                clear hs hx hcs
                generalize (xs.take q2).any (· == 7) = f at HS ⊢
                cases f
                · go_wp2_with fail
                  go_roundw
                  case rel => exact ⟨q2 + 1, by omega, by go_num, by rw [HS.out]; simp, trivial⟩
                  case measure => simp [intOf]; omega
                · go_wp2_with fail
                  go_roundw
                  case rel => exact ⟨q2 + 1, by omega, by go_num, by rw [HS.out]; simp, trivial⟩
                  case measure => simp [intOf]; omega
              · obtain rfl : q2 = N := by omega
                have hall : (xs.take q2).any (· == 7) = true := by rw [List.take_of_length_le (by rw [← HNX.out]; exact Nat.le_refl _)]; exact H77.out
                rw [hall]
                have H1 := hid (HGG.out.ping HCC.out)
                clear hall
                go_wp2_with (first
                  | (go_at_call 19; refine H1.out.mono ?_; rintro e w7 ⟨rfl, hg7⟩; have H2 := hid (hg7.leave HCC.out); clear hg7 H1)
                  | (go_at_call 20; refine H2.out.mono ?_; rintro e w8 ⟨rfl, hb8⟩; have HB8 := hid hb8; have H3 := hid (HAW.out w8); clear hb8 H2)
                  | (go_at_call 9; refine H3.out.mono ?_; rintro e w9 ⟨rfl, hb9⟩; have HB9 := hid (HB8.out.trans (hb9.mono HB8.out.size)); clear hb9 H3)
                  | fail)
                go_ret
                exact ⟨rfl, HB9.out⟩
      · have d3 : decide ((k : Int) < (gn : Int)) = true := decide_eq_true (by omega)
        have d4 : decide ((k : Int) < 60) = false := decide_eq_false (by omega)
        go_wp2_with fail
        go_loopw [13] (fun j wi => ∃ q : Nat, 1 ≤ q ∧ (q : Int) ≤ P ∧ j = .int .i64 q ∧ RowKit.Hid (HeQ Rp w (.pointer (some ⟨pv, 0, none⟩)) P (M + q) ((q : Int) - 1) wi)) (fun j _ => P.toNat - (intOf j).toNat)
        case atStart => exact ⟨1, Nat.le_refl _, hP1.1, rfl, hid (by have := HQ.out.up (M2 := M + 1) (by omega); simpa using this)⟩
        case round =>
          clear HQ
          obtain ⟨q, hq1, hq, rfl, HI2⟩ := hrel
          by_cases hqP : (q : Int) < P
          · have dq : decide ((q : Int) < P) = true := decide_eq_true hqP
            have hwq := IntWalk.i64_in (P - (q : Int)) (by omega)
            have HTK := hid (HI2.out.tick HCC.out (by omega) (by omega))
            rw [show (q : Int) - 1 + 1 = (q : Int) by omega] at HTK
            clear HI2
            go_wp2_with (first
              | (go_at_call 18; refine HTK.out.mono ?_; rintro e w6 ⟨⟨u, rfl⟩, h6⟩; have HLF := hid (h6.left HCC.out (by omega)); clear h6 HTK)
              | (go_at_call 12; refine HLF.out.mono ?_; rintro e w7 ⟨rfl, h7⟩; have H7 := hid h7; clear h7 HLF)
              | fail)
            go_roundw
            case rel => exact ⟨q + 1, by omega, by omega, by go_num, hid (by have := H7.out; rw [show M + q + 1 = M + (q + 1) by omega] at this; rw [show ((q + 1 : Nat) : Int) - 1 = (q : Int) by omega]; exact this)⟩
            case measure => simp [intOf]; omega
          · have dq : decide ((q : Int) < P) = false := decide_eq_false hqP
            have HOV := hid (HI2.out.over HCC.out (by omega) (by omega))
            clear HI2
            go_upto_region 24 with (first
              | (go_at_call 18; refine HOV.out.mono ?_; rintro e w6 ⟨⟨u, xs, rfl, ht, h7⟩, hG⟩)
              | fail)
            obtain ⟨ua, uc, rfl, huc, huc2, hat⟩ := ht.ex
            have h77 : xs.any (· == 7) = true := List.any_eq_true.2 ⟨7, h7, by decide⟩
            obtain ⟨N, hN⟩ : ∃ N, N = xs.length := ⟨_, rfl⟩
            rw [← hN] at huc hat ⊢
            have HAT := hid hat
            have HNX := hid hN
            have H77 := hid h77
            have HGG := hid hG
            clear HOV ht h7 hG hat hN h77
            go_wp2_with fail
            go_loopw [17, 18] (fun f j wi => ∃ q : Nat, q ≤ N ∧ j = .int .i64 q ∧ f = .bool ((xs.take q).any (· == 7)) ∧ wi = w6) (fun _ j _ => N - (intOf j).toNat)
            case atStart => exact ⟨0, by omega, rfl, by simp, rfl⟩
            case round =>
              obtain ⟨q2, hq2, rfl, rfl, hwr⟩ := hrel
              subst hwr
              by_cases hqN : q2 < N
              · have hx : xs[q2]? = some (xs[q2]'(by rw [← HNX.out]; exact hqN)) := List.getElem?_eq_getElem _
                generalize xs[q2]'(by rw [← HNX.out]; exact hqN) = x at hx
                obtain ⟨ub, uo, rfl, hub, hcs⟩ := HAT.out (by omega)
                have cx := hcs q2 (.int .u64 x) (by rw [List.getElem?_map, hx]; rfl)
                have hs : (xs.take (q2 + 1)).any (· == 7) = ((xs.take q2).any (· == 7) || x == 7) := by rw [List.take_add_one, hx, List.any_append]; simp
                have HS := hid hs
                clear hs hx hcs
                generalize (xs.take q2).any (· == 7) = f at HS ⊢
                cases f
                · go_wp2_with fail
                  go_roundw
                  case rel => exact ⟨q2 + 1, by omega, by go_num, by rw [HS.out]; simp, trivial⟩
                  case measure => simp [intOf]; omega
                · go_wp2_with fail
                  go_roundw
                  case rel => exact ⟨q2 + 1, by omega, by go_num, by rw [HS.out]; simp, trivial⟩
                  case measure => simp [intOf]; omega
              · obtain rfl : q2 = N := by omega
                have hall : (xs.take q2).any (· == 7) = true := by rw [List.take_of_length_le (by rw [← HNX.out]; exact Nat.le_refl _)]; exact H77.out
                rw [hall]
                have H1 := hid (HGG.out.ping HCC.out)
                clear hall
                go_wp2_with (first
                  | (go_at_call 19; refine H1.out.mono ?_; rintro e w7 ⟨rfl, hg7⟩; have H2 := hid (hg7.leave HCC.out); clear hg7 H1)
                  | (go_at_call 20; refine H2.out.mono ?_; rintro e w8 ⟨rfl, hb8⟩; have HB8 := hid hb8; have H3 := hid (HAW.out w8); clear hb8 H2)
                  | (go_at_call 9; refine H3.out.mono ?_; rintro e w9 ⟨rfl, hb9⟩; have HB9 := hid (HB8.out.trans (hb9.mono HB8.out.size)); clear hb9 H3)
                  | fail)
                go_ret
                exact ⟨rfl, HB9.out⟩
end
end Go.Proofs.Ytbdhjkdojgdhbaa
