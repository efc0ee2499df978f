/-
  The laws of layer 11: HeapCounts, the walk.
-/
import Derived.Test.YtceokibalphgpaaHpT
import Derived.Test.YtceokibalphgpaaHpW
import Derived.Test.YtceokibalphgpaaPick
import Derived.Test.YtceokibalphgpaaMixD
namespace Go.Proofs.Ytceokibalphgpaa
open Go Go.ChangeShapes Go.WideShapes Go.ChangeAt Go.RowKit

set_option maxRecDepth 100000 in
set_option maxHeartbeats 16000000 in
theorem HeapCounts_any (w : World) (Rp : (Nat → Prop) → World → Value → Hs → Prop) (HC : HeapC w Rp) (HLn : LnC w Rp) (most : Int) (hmo : Nm most) (ad : Option Addr) (c : Nat) (l : List HAct) (hl : RwH w w.heap.size ad l) (hll : l.length ≤ 9223372036854775807) :
    Calls Try.prog 5 #[.int .i64 most, .slice ad l.length c] w fun e w' => e = .returned (.bool true) ∧ Below w.heap.size w w' := by
  have HCC := hid HC
  have HLN := hid HLn
  have HL := hid hl
  obtain ⟨m, hm⟩ : ∃ m : Nat, most % 30 = (m : Int) := ⟨(most % 30).toNat, by omega⟩
  have hm1 : m < 30 := by omega
  have HPN := hid (fun W => Pick_any most 30 W hmo (by omega) (by omega))
  rw [hm] at HPN
  have HN := hid (HC.new (1 + (m : Int)) 1048576 w (Below.refl _ _) (by simp only [Nm]; omega) (by simp [U32]))
  obtain ⟨i0, hi, hz0, hz1, hz2⟩ := info_parts infoU
  have hi' := hid hi
  have hz0' := hid hz0
  have hz1' := hid hz1
  have hz2' := hid hz2
  obtain ⟨i1, kj, k0, k1, k2⟩ := info_parts infoN
  have ki' := hid kj
  have kz0' := hid k0
  have kz1' := hid k1
  have kz2' := hid k2
  clear HC HLn hl hmo hm hi hz0 hz1 hz2 kj k0 k1 k2
  go_enter Try.func5, Try.ntmps5
  go_wp2_with fail
  refine (HPN.out _).mono ?_
  rintro e wp ⟨rfl, hwp⟩
  subst hwp
  clear HPN
  go_wp2_with fail
  refine HN.out.mono ?_
  rintro e w1 ⟨hb1, hx⟩
  rw [if_pos (by omega)] at hx
  obtain ⟨p, S, rfl, hS, hR⟩ := hx
  obtain ⟨pb, rfl⟩ := HCC.out.ptr hR
  have HI := hid (show CnI Rp w (.pointer (some ⟨pb, 0, none⟩)) (.slice none 0 0) (.slice none 0 0) 0 w1 from ⟨S, _, fun _ => 0, ⟨RowS.nil _ _ _ _ _, RowS.nil _ _ _ _ _, fun j hj => by simp [Value.ownBlock] at hj⟩, hS, hR, ⟨Nat.le_refl _, ⟨by simp [Nd], fun o ho => (by cases ho), fun o ho => (by cases ho), fun _ => Int.le_refl _, fun o ho => (by cases ho), fun h _ => ⟨rfl, rfl, rfl⟩⟩, winv_nil fun o ho => (by cases ho), fun o ho => (by cases ho), fun h => by omega, rfl⟩, hb1⟩)
  clear hb1 hS hR HN hm1
  go_wp2
  go_loopw [9, 7, 8] (fun i9 v7 v8 wr => ∃ i : Nat, i ≤ l.length ∧ i ≤ 80 ∧ i9 = .int .i64 i ∧ RowKit.Hid (CnI Rp w (.pointer (some ⟨pb, 0, none⟩)) v7 v8 i wr)) (fun i9 _ _ _ => 80 - (intOf i9).toNat)
  case atStart => exact ⟨0, by omega, by omega, rfl, HI⟩
  case round =>
    obtain ⟨i, hil, hi80, rfl, HIi⟩ := hrel
    clear HI
    by_cases hgo : i < l.length ∧ i < 80
    · obtain ⟨hg1, hg2⟩ := hgo
      have hx : l[i]? = some (l[i]'hg1) := List.getElem?_eq_getElem hg1
      generalize l[i]'hg1 = x at hx
      obtain ⟨b, o, rfl, hb⟩ := HL.out.at_ (by omega)
      obtain ⟨S, s, out, hI⟩ := HIi.out
      have HAT := hid ((HL.out.below hI.b).rows b o rfl i x hx)
      have HOK := hid (HL.out.ok x (List.mem_of_getElem? hx))
      have hbb := boxA_below wr x
      have HA5 := hid (boxA_row wr x)
      have HI5 := hid (hI.next HCC.out hbb)
      clear hx hbb hI HIi
      go_upto_region 10 with (first
        | ((with_reducible refine at_op ⟨some 45, _, _, _, _, _⟩ ?_); refine wpList_run rfl _ (load_act rfl rfl HAT.out) ?_)
        | ((with_reducible refine at_op ⟨none, .store 36 (.tmp 10) (.tmp 45), _, _, _, _⟩ ?_); refine wpList_store_row rfl 36 _ _ rfl wr.heap.size (acc x).toArray rfl rfl 36 zAct (heap_alloc_new _ _) (sizeA x) rfl (oneA x) ?_)
        | fail)
      change Code.wp _ _ _ _ (boxA wr x)
      obtain ⟨w5, hw5⟩ : ∃ w5, w5 = boxA wr x := ⟨_, rfl⟩
      obtain ⟨g5, hg5⟩ : ∃ g, g = wr.heap.size := ⟨_, rfl⟩
      rw [← hw5, ← hg5] at HA5
      rw [← hw5] at HI5 ⊢
      rw [← hg5]
      clear hw5 hg5 HAT
      have c0 := HA5.out.c0
      obtain ⟨av, kv, hv5, hkv1, hkv2, hgv⟩ := HI5.out.two.g.form
      subst hv5
      obtain ⟨ao, ko, hv6, hko1, hko2, hgo⟩ := HI5.out.two.o.form
      subst hv6
      rw [List.length_map] at hko1 hgo
      rw [List.length_map] at HI5
      rw [List.length_map]
      obtain ⟨n, hn⟩ : ∃ n, n = s.G.length := ⟨_, rfl⟩
      have hn80 : n ≤ i := by rw [hn]; exact HI5.out.cp.g
      rw [← hn] at hkv1 hko1 HI5 ⊢
      have HN := hid hn
      have HGV := hid hgv
      have HGO := hid hgo
      clear hn hgv hgo
      by_cases hn0 : n = 0
      · subst hn0
        go_wp2_with fail
        refine (HCC.out.make S w5 _ s 2 0 HI5.out.b HI5.out.rp (by simp [Nm]) (by simp [Hn])).mono ?_
        rintro e w6 ⟨hf, s', hh, er, rfl, hmk, hR6⟩
        have HB6 := hid (HI5.out.b.trans (hf.below HI5.out.b.size HI5.out.ge))
        have HR6 := hid hR6
        have HT6 := hid (HI5.out.two.fr hf)
        have HS6 := hid (exS_ge (w' := w6) HI5.out.ge HI5.out.b.size)
        cases hmk with
        | arg h => omega
        | stale h h0 => exact absurd rfl h0
        | inner h h0 => exact absurd rfl h0
        | full h h0 hF =>
          have HI6 := hid (show CnI Rp w (.pointer (some ⟨pb, 0, none⟩)) (.slice av 0 kv) (.slice ao 0 ko) (i + 1) w6 from ⟨_, s, out, HT6.out, HS6.out, HR6.out, HI5.out.cp.idle, HB6.out⟩)
          clear hR6 hf HB6 HR6 HT6 HS6 HI5 HA5 c0 h h0 hF
          go_wp2
          go_roundw
          case rel => exact ⟨i + 1, by omega, by omega, by go_num, HI6⟩
          case measure => simp [intOf]; omega
        | @ok h h0 ii gg A' hp =>
          obtain ⟨y, hy⟩ : ∃ y, y = hand ii gg := ⟨_, rfl⟩
          rw [← hy] at HR6 ⊢
          have hmk := HI5.out.cp.make (y := y) (HCC.out.ok HR6.out) (HCC.out.ok HI5.out.rp)
          have HC6 := hid hmk.1
          have HM6 := hid hmk.2
          have HLT6 := hid (HCC.out.lt HR6.out)
          clear hR6 hf HI5 HA5 c0 h h0 hp hy hmk
          go_upto_region 14 with (first
            | (at_builtin; refine wpList_append_own_at _ (o := ⟨some 65, _, _, _, _, _⟩) rfl (.tmp 62) (.tmp 64) 43 rfl w.heap.size TU i0 (.int .u64 0) 1 8 Try.underlying43 hi'.out hz0'.out hz1'.out hz2'.out rfl (by decide) (.slice av 0 kv) _ _ rfl (HT6.out.g.own.alloc _) ⟨w6.heap.size, 0, none⟩ 1 1 [.int .u64 y] rfl rfl (World.news_of_block (heap_alloc_new w6 _)) (fun u hu => by rw [List.mem_singleton.1 hu]; rfl) (by rw [← HN.out]; unfold maxLen; omega) (by rw [← HN.out]; omega) (by have := HB6.out.size; simp; omega) ?_; intro vz wz hownz hgrowz hnilz hatz; have HOz := hid hownz; have HGz := hid hgrowz; have HAz := hid hatz; clear hownz hgrowz hnilz hatz)
            | fail)
          obtain ⟨ht7, hf7⟩ := HT6.out.app1 (x := y) HLT6.out HOz.out HGz.out HAz.out
          have hob : ∀ k, (Value.slice av 0 kv).ownBlock = some k → w.heap.size ≤ k ∧ ¬ exS S w5 w6 k := fun k hk => ⟨(HT6.out.g.own.lt k hk).1, HT6.out.g.off k hk⟩
          have hR7 := HCC.out.keep HR6.out (fun b hb => hf7.block b (HLT6.out b hb) (fun hk => (hob b hk).2 hb)) hf7.size
          have hb7 := HB6.out.trans (hf7.below HB6.out.size fun k hk => (hob k hk).1)
          obtain ⟨w7, hw7⟩ : ∃ w7, w7 = wz := ⟨_, rfl⟩
          rw [← hw7] at ht7 hR7 hb7 ⊢
          have HT7 := hid ht7
          have HR7 := hid hR7
          have HB7 := hid hb7
          have HLT7 := hid (HCC.out.lt hR7)
          clear ht7 hR7 hb7 hf7 hob hw7 HOz HGz HAz HT6 HR6 HB6 HLT6
          go_wp2_with (first
            | (at_builtin; refine wpList_append_own_at _ (o := ⟨some 68, _, _, _, _, _⟩) rfl (.tmp 66) (.tmp 67) 57 rfl w.heap.size TN i1 (.int .i64 0) 1 8 Try.underlying57 ki'.out kz0'.out kz1'.out kz2'.out rfl (by decide) (.slice ao 0 ko) _ _ rfl (HT7.out.o.own.alloc _) ⟨w7.heap.size, 0, none⟩ 1 1 [.int .i64 1] rfl rfl (World.news_of_block (heap_alloc_new w7 _)) (fun u hu => by rw [List.mem_singleton.1 hu]; rfl) (by rw [List.length_map, ← HN.out]; unfold maxLen; omega) (by rw [List.length_map, ← HN.out]; omega) (by have := HB7.out.size; simp; omega) ?_; intro vy wy hownz hgrowz hnilz hatz; have HOy := hid hownz; have HGy := hid hgrowz; have HAy := hid hatz; clear hownz hgrowz hnilz hatz)
            | fail)
          obtain ⟨ht8, hf8⟩ := HT7.out.app2 (x := 1) HLT7.out HOy.out HGy.out HAy.out
          have hob : ∀ k, (Value.slice ao 0 ko).ownBlock = some k → w.heap.size ≤ k ∧ ¬ exS S w5 w6 k := fun k hk => ⟨(HT7.out.o.own.lt k hk).1, HT7.out.o.off k hk⟩
          rw [← HM6.out] at ht8
          have HI6 := hid (show CnI Rp w (.pointer (some ⟨pb, 0, none⟩)) vz vy (i + 1) wy from ⟨_, _, _, ht8, HS6.out, HCC.out.keep HR7.out (fun b hb => hf8.block b (HLT7.out b hb) (fun hk => (hob b hk).2 hb)) hf8.size, HC6.out, HB7.out.trans (hf8.below HB7.out.size fun k hk => (hob k hk).1)⟩)
          clear ht8 hf8 hob HOy HGy HAy HT7 HR7 HB7 HLT7 HC6 HM6 HS6
          go_wp2
          go_roundw
          case rel => exact ⟨i + 1, by omega, by omega, by go_num, HI6⟩
          case measure => simp [intOf]; omega
      have d1 : ((n : Int) == 0) = false := by simp; omega
      by_cases hk0 : (bits .and .i64 x.kind 3 == 0) = true
      · skip
        go_wp2_with fail
        refine (HCC.out.make S w5 _ s 2 0 HI5.out.b HI5.out.rp (by simp [Nm]) (by simp [Hn])).mono ?_
        rintro e w6 ⟨hf, s', hh, er, rfl, hmk, hR6⟩
        have HB6 := hid (HI5.out.b.trans (hf.below HI5.out.b.size HI5.out.ge))
        have HR6 := hid hR6
        have HT6 := hid (HI5.out.two.fr hf)
        have HS6 := hid (exS_ge (w' := w6) HI5.out.ge HI5.out.b.size)
        cases hmk with
        | arg h => omega
        | stale h h0 => exact absurd rfl h0
        | inner h h0 => exact absurd rfl h0
        | full h h0 hF =>
          have HI6 := hid (show CnI Rp w (.pointer (some ⟨pb, 0, none⟩)) (.slice av n kv) (.slice ao n ko) (i + 1) w6 from ⟨_, s, out, HT6.out, HS6.out, HR6.out, HI5.out.cp.idle, HB6.out⟩)
          clear hR6 hf HB6 HR6 HT6 HS6 HI5 HA5 c0 h h0 hF
          go_wp2
          go_roundw
          case rel => exact ⟨i + 1, by omega, by omega, by go_num, HI6⟩
          case measure => simp [intOf]; omega
        | @ok h h0 ii gg A' hp =>
          obtain ⟨y, hy⟩ : ∃ y, y = hand ii gg := ⟨_, rfl⟩
          rw [← hy] at HR6 ⊢
          have hmk := HI5.out.cp.make (y := y) (HCC.out.ok HR6.out) (HCC.out.ok HI5.out.rp)
          have HC6 := hid hmk.1
          have HM6 := hid hmk.2
          have HLT6 := hid (HCC.out.lt HR6.out)
          clear hR6 hf HI5 HA5 c0 h h0 hp hy hmk
          go_upto_region 14 with (first
            | (at_builtin; refine wpList_append_own_at _ (o := ⟨some 65, _, _, _, _, _⟩) rfl (.tmp 62) (.tmp 64) 43 rfl w.heap.size TU i0 (.int .u64 0) 1 8 Try.underlying43 hi'.out hz0'.out hz1'.out hz2'.out rfl (by decide) (.slice av n kv) _ _ rfl (HT6.out.g.own.alloc _) ⟨w6.heap.size, 0, none⟩ 1 1 [.int .u64 y] rfl rfl (World.news_of_block (heap_alloc_new w6 _)) (fun u hu => by rw [List.mem_singleton.1 hu]; rfl) (by rw [← HN.out]; unfold maxLen; omega) (by rw [← HN.out]; omega) (by have := HB6.out.size; simp; omega) ?_; intro vz wz hownz hgrowz hnilz hatz; have HOz := hid hownz; have HGz := hid hgrowz; have HAz := hid hatz; clear hownz hgrowz hnilz hatz)
            | fail)
          obtain ⟨ht7, hf7⟩ := HT6.out.app1 (x := y) HLT6.out HOz.out HGz.out HAz.out
          have hob : ∀ k, (Value.slice av n kv).ownBlock = some k → w.heap.size ≤ k ∧ ¬ exS S w5 w6 k := fun k hk => ⟨(HT6.out.g.own.lt k hk).1, HT6.out.g.off k hk⟩
          have hR7 := HCC.out.keep HR6.out (fun b hb => hf7.block b (HLT6.out b hb) (fun hk => (hob b hk).2 hb)) hf7.size
          have hb7 := HB6.out.trans (hf7.below HB6.out.size fun k hk => (hob k hk).1)
          obtain ⟨w7, hw7⟩ : ∃ w7, w7 = wz := ⟨_, rfl⟩
          rw [← hw7] at ht7 hR7 hb7 ⊢
          have HT7 := hid ht7
          have HR7 := hid hR7
          have HB7 := hid hb7
          have HLT7 := hid (HCC.out.lt hR7)
          clear ht7 hR7 hb7 hf7 hob hw7 HOz HGz HAz HT6 HR6 HB6 HLT6
          go_wp2_with (first
            | (at_builtin; refine wpList_append_own_at _ (o := ⟨some 68, _, _, _, _, _⟩) rfl (.tmp 66) (.tmp 67) 57 rfl w.heap.size TN i1 (.int .i64 0) 1 8 Try.underlying57 ki'.out kz0'.out kz1'.out kz2'.out rfl (by decide) (.slice ao n ko) _ _ rfl (HT7.out.o.own.alloc _) ⟨w7.heap.size, 0, none⟩ 1 1 [.int .i64 1] rfl rfl (World.news_of_block (heap_alloc_new w7 _)) (fun u hu => by rw [List.mem_singleton.1 hu]; rfl) (by rw [List.length_map, ← HN.out]; unfold maxLen; omega) (by rw [List.length_map, ← HN.out]; omega) (by have := HB7.out.size; simp; omega) ?_; intro vy wy hownz hgrowz hnilz hatz; have HOy := hid hownz; have HGy := hid hgrowz; have HAy := hid hatz; clear hownz hgrowz hnilz hatz)
            | fail)
          obtain ⟨ht8, hf8⟩ := HT7.out.app2 (x := 1) HLT7.out HOy.out HGy.out HAy.out
          have hob : ∀ k, (Value.slice ao n ko).ownBlock = some k → w.heap.size ≤ k ∧ ¬ exS S w5 w6 k := fun k hk => ⟨(HT7.out.o.own.lt k hk).1, HT7.out.o.off k hk⟩
          rw [← HM6.out] at ht8
          have HI6 := hid (show CnI Rp w (.pointer (some ⟨pb, 0, none⟩)) vz vy (i + 1) wy from ⟨_, _, _, ht8, HS6.out, HCC.out.keep HR7.out (fun b hb => hf8.block b (HLT7.out b hb) (fun hk => (hob b hk).2 hb)) hf8.size, HC6.out, HB7.out.trans (hf8.below HB7.out.size fun k hk => (hob k hk).1)⟩)
          clear ht8 hf8 hob HOy HGy HAy HT7 HR7 HB7 HLT7 HC6 HM6 HS6
          go_wp2
          go_roundw
          case rel => exact ⟨i + 1, by omega, by omega, by go_num, HI6⟩
          case measure => simp [intOf]; omega
      have d2 : (bits .and .i64 x.kind 3 == 0) = false := by simpa using hk0
      clear hk0
      have c2 := HA5.out.c2
      have hm0 := Int.emod_nonneg x.h (show (n : Int) ≠ 0 by omega)
      have hm1 := Int.emod_lt_of_pos x.h (show (0 : Int) < n by omega)
      obtain ⟨k, hk, hkn⟩ : ∃ k : Nat, x.h % (n : Int) = (k : Int) ∧ k < n := ⟨(x.h % (n : Int)).toNat, by omega, by omega⟩
      have HPK := hid (fun W => Pick_any x.h (n : Int) W HOK.out.2.2.1 (by omega) (by omega))
      rw [hk] at HPK
      clear hm0 hm1 hk
      go_wp2_with fail
      refine (HPK.out _).mono ?_
      rintro e w5x ⟨rfl, hwx⟩
      rw [← hwx]
      clear hwx HPK c2
      obtain ⟨gv, rfl, hgv1, hgv2, hgv3⟩ := HGV.out (by have := HN.out; omega)
      obtain ⟨g2, rfl, hgo1, hgo2, hgo3⟩ := HGO.out (by have := HN.out; omega)
      have hy : s.G[k]? = some (s.G[k]'(by have := HN.out; omega)) := List.getElem?_eq_getElem _
      generalize s.G[k]'(by have := HN.out; omega) = y at hy
      have ck : w5.cell? ⟨gv, k, none⟩ = some (.int .u64 y) := HI5.out.two.g.cell HN.out hy
      have co : w5.cell? ⟨g2, k, none⟩ = some (.int .i64 (out y)) := HI5.out.two.o.cell (by rw [List.length_map]; exact HN.out) (by rw [List.getElem?_map, hy]; rfl)
      have HY := hid hy
      have HHN := hid (fun z (hz : z ∈ s.G) => (by have := (HCC.out.ok HI5.out.rp).nz z hz; simp only [Hn]; omega : Hn z))
      have HYN := hid (HHN.out y (List.mem_of_getElem? hy))
      clear hy hgv1 hgv2 hgv3 hgo1 hgo2 hgo3 HGV HGO
      by_cases hk1 : (bits .and .i64 x.kind 3 == 1) = true
      · skip
        by_cases hp : 0 < out y
        · have hdp : decide (0 < out y) = true := by simpa using hp
          have hob := HI5.out.cp.o y
          go_wp2_with fail
          refine (HCC.out.up S w5 _ s y HI5.out.b HI5.out.rp HYN.out).mono ?_
          rintro e w6 ⟨hf, s', nn, er, rfl, hac, hR6⟩
          obtain ⟨rfl, hcp, hG⟩ := HI5.out.cp.up (HCC.out.ok HI5.out.rp) (by omega) hp hac
          have ht6 := HI5.out.two.fr hf
          have hnm : n = (s.G.map out).length := by rw [List.length_map]; exact HN.out
          have co6 : w6.cell? ⟨g2, k, none⟩ = some (.int .i64 (out y)) := ht6.o.cell hnm (by rw [List.getElem?_map, HY.out]; rfl)
          have fz6 := ht6.o.fz hnm k
          obtain ⟨ht7, hf7⟩ := ht6.put hnm k (out y + 1)
          have hlt6 := HCC.out.lt hR6
          have hge6 := exS_ge (w' := w6) HI5.out.ge HI5.out.b.size
          have hb6 : Below w.heap.size w w6 := HI5.out.b.trans (hf.below HI5.out.b.size HI5.out.ge)
          have hob2 : ∀ b, b = g2 → w.heap.size ≤ b ∧ ¬ exS S w5 w6 b := fun b e => by subst e; exact ⟨(ht6.o.own.lt _ rfl).1, ht6.o.off _ rfl⟩
          have hR7 := HCC.out.keep hR6 (fun b hb => hf7.block b (hlt6 b hb) (fun e => (hob2 b e).2 hb)) hf7.size
          rw [map_up (HCC.out.ok HI5.out.rp).gnd HY.out] at ht7
          have HQ := hid (show CnS Rp w (.pointer (some ⟨pb, 0, none⟩)) (.slice (some ⟨gv, 0, none⟩) n kv) (.slice (some ⟨g2, 0, none⟩) n ko) (i + 1) (exS S w5 w6) s' _ (w6.setCell ⟨g2, k, none⟩ (.int .i64 (out y + 1))) from ⟨by rw [hG]; exact ht7, hge6, hR7, hcp, hb6.trans (hf7.below hb6.size fun b e => (hob2 b e).1)⟩)
          have wd : IntKind.i64.wrap (out y + 1) = out y + 1 := by rw [IntWalk.i64_in _ (by omega)]; try omega
          clear hf hR6 hac hcp hG ht6 hnm ht7 hf7 hlt6 hge6 hb6 hob2 hR7 HI5 HA5 HY HYN ck c0 co
          go_wp2_with fail
          refine (HQ.out.call HCC.out HLN.out (by omega)).mono ?_
          rintro e w9 ⟨rfl, hb9⟩
          have HI9 := hid (show CnI Rp w (.pointer (some ⟨pb, 0, none⟩)) (.slice (some ⟨gv, 0, none⟩) n kv) (.slice (some ⟨g2, 0, none⟩) n ko) (i + 1) w9 from ⟨_, _, _, HQ.out.next HCC.out hb9⟩)
          clear hb9 HQ
          go_wp2
          go_roundw
          case rel => exact ⟨i + 1, by omega, by omega, by go_num, HI9⟩
          case measure => simp [intOf]; omega
        · have hdp : decide (0 < out y) = false := by simpa using hp
          have HQ := hid (show CnS Rp w (.pointer (some ⟨pb, 0, none⟩)) (.slice (some ⟨gv, 0, none⟩) n kv) (.slice (some ⟨g2, 0, none⟩) n ko) (i + 1) S s out w5 from ⟨HI5.out.two, HI5.out.ge, HI5.out.rp, HI5.out.cp.idle, HI5.out.b⟩)
          clear HI5 HY HYN ck
          go_wp2_with fail
          refine (HQ.out.call HCC.out HLN.out (by omega)).mono ?_
          rintro e w9 ⟨rfl, hb9⟩
          have HI9 := hid (show CnI Rp w (.pointer (some ⟨pb, 0, none⟩)) (.slice (some ⟨gv, 0, none⟩) n kv) (.slice (some ⟨g2, 0, none⟩) n ko) (i + 1) w9 from ⟨_, _, _, HQ.out.next HCC.out hb9⟩)
          clear hb9 HQ
          go_wp2
          go_roundw
          case rel => exact ⟨i + 1, by omega, by omega, by go_num, HI9⟩
          case measure => simp [intOf]; omega
      have d3 : (bits .and .i64 x.kind 3 == 1) = false := by simpa using hk1
      clear hk1
      by_cases hk2 : (bits .and .i64 x.kind 3 == 2) = true
      · skip
        by_cases hp : 0 < out y
        · have hdp : decide (0 < out y) = true := by simpa using hp
          have hob := HI5.out.cp.o y
          go_wp2_with fail
          refine (HCC.out.dn S w5 _ s y HI5.out.b HI5.out.rp HYN.out).mono ?_
          rintro e w6 ⟨hf, s', g, f, er, vg, vf, rfl, htg, htf, hac, hR6⟩
          obtain ⟨rfl, hcp, hG⟩ := HI5.out.cp.down hp hac
          obtain ⟨ag, cg, hvg, _⟩ := htg.ex
          obtain ⟨af, cf, hvf, _⟩ := htf.ex
          subst hvg hvf
          clear htg htf
          have ht6 := HI5.out.two.fr hf
          have hnm : n = (s.G.map out).length := by rw [List.length_map]; exact HN.out
          have co6 : w6.cell? ⟨g2, k, none⟩ = some (.int .i64 (out y)) := ht6.o.cell hnm (by rw [List.getElem?_map, HY.out]; rfl)
          have fz6 := ht6.o.fz hnm k
          obtain ⟨ht7, hf7⟩ := ht6.put hnm k (out y + (-1))
          have hlt6 := HCC.out.lt hR6
          have hge6 := exS_ge (w' := w6) HI5.out.ge HI5.out.b.size
          have hb6 : Below w.heap.size w w6 := HI5.out.b.trans (hf.below HI5.out.b.size HI5.out.ge)
          have hob2 : ∀ b, b = g2 → w.heap.size ≤ b ∧ ¬ exS S w5 w6 b := fun b e => by subst e; exact ⟨(ht6.o.own.lt _ rfl).1, ht6.o.off _ rfl⟩
          have hR7 := HCC.out.keep hR6 (fun b hb => hf7.block b (hlt6 b hb) (fun e => (hob2 b e).2 hb)) hf7.size
          rw [map_up (HCC.out.ok HI5.out.rp).gnd HY.out] at ht7
          have HQ := hid (show CnS Rp w (.pointer (some ⟨pb, 0, none⟩)) (.slice (some ⟨gv, 0, none⟩) n kv) (.slice (some ⟨g2, 0, none⟩) n ko) (i + 1) (exS S w5 w6) s' _ (w6.setCell ⟨g2, k, none⟩ (.int .i64 (out y + (-1)))) from ⟨by rw [hG]; exact ht7, hge6, hR7, hcp, hb6.trans (hf7.below hb6.size fun b e => (hob2 b e).1)⟩)
          have wd : IntKind.i64.wrap (out y - 1) = out y + (-1) := by rw [IntWalk.i64_in _ (by omega)]; try omega
          clear hf hR6 hac hcp hG ht6 hnm ht7 hf7 hlt6 hge6 hb6 hob2 hR7 HI5 HA5 HY HYN ck c0 co
          go_wp2_with fail
          refine (HQ.out.call HCC.out HLN.out (by omega)).mono ?_
          rintro e w9 ⟨rfl, hb9⟩
          have HI9 := hid (show CnI Rp w (.pointer (some ⟨pb, 0, none⟩)) (.slice (some ⟨gv, 0, none⟩) n kv) (.slice (some ⟨g2, 0, none⟩) n ko) (i + 1) w9 from ⟨_, _, _, HQ.out.next HCC.out hb9⟩)
          clear hb9 HQ
          go_wp2
          go_roundw
          case rel => exact ⟨i + 1, by omega, by omega, by go_num, HI9⟩
          case measure => simp [intOf]; omega
        · have hdp : decide (0 < out y) = false := by simpa using hp
          have HQ := hid (show CnS Rp w (.pointer (some ⟨pb, 0, none⟩)) (.slice (some ⟨gv, 0, none⟩) n kv) (.slice (some ⟨g2, 0, none⟩) n ko) (i + 1) S s out w5 from ⟨HI5.out.two, HI5.out.ge, HI5.out.rp, HI5.out.cp.idle, HI5.out.b⟩)
          clear HI5 HY HYN ck
          go_wp2_with fail
          refine (HQ.out.call HCC.out HLN.out (by omega)).mono ?_
          rintro e w9 ⟨rfl, hb9⟩
          have HI9 := hid (show CnI Rp w (.pointer (some ⟨pb, 0, none⟩)) (.slice (some ⟨gv, 0, none⟩) n kv) (.slice (some ⟨g2, 0, none⟩) n ko) (i + 1) w9 from ⟨_, _, _, HQ.out.next HCC.out hb9⟩)
          clear hb9 HQ
          go_wp2
          go_roundw
          case rel => exact ⟨i + 1, by omega, by omega, by go_num, HI9⟩
          case measure => simp [intOf]; omega
      have d4 : (bits .and .i64 x.kind 3 == 2) = false := by simpa using hk2
      clear hk2
      obtain ⟨cy, hcy, HCY⟩ := HI5.out.count HCC.out (by omega) y HYN.out
      have HCYA := hid hcy
      have HCYC := hid HCY
      have c3 := HA5.out.c3
      have hm0 := Int.emod_nonneg x.x (show (n : Int) ≠ 0 by omega)
      have hm1 := Int.emod_lt_of_pos x.x (show (0 : Int) < n by omega)
      obtain ⟨j, hj, hjn⟩ : ∃ j : Nat, x.x % (n : Int) = (j : Int) ∧ j < n := ⟨(x.x % (n : Int)).toNat, by omega, by omega⟩
      have HPK := hid (fun W => Pick_any x.x (n : Int) W HOK.out.2.2.2.1 (by omega) (by omega))
      rw [hj] at HPK
      clear hm0 hm1 hj hcy HCY
      go_wp2_with fail
      refine (HPK.out _).mono ?_
      rintro e w5x ⟨rfl, hwx⟩
      rw [← hwx]
      clear hwx HPK c3
      have hz : s.G[j]? = some (s.G[j]'(by have := HN.out; omega)) := List.getElem?_eq_getElem _
      generalize s.G[j]'(by have := HN.out; omega) = z at hz
      have HZ := hid hz
      have HZN := hid (HHN.out z (List.mem_of_getElem? hz))
      clear hz
      go_wp2_with fail
      refine (HCYC.out w5 (Below.refl _ _)).mono ?_
      rintro e w6 ⟨hb6, rfl⟩
      have HI6 := hid (HI5.out.next HCC.out hb6)
      have HB6 := hid hb6
      have cz6 : w6.cell? ⟨gv, j, none⟩ = some (.int .u64 z) := HI6.out.two.g.cell HN.out HZ.out
      have ck6 : w6.cell? ⟨gv, k, none⟩ = some (.int .u64 y) := HI6.out.two.g.cell HN.out HY.out
      have ca6 : w6.cell? ⟨g5, 1, none⟩ = some (.int .i64 x.a) := (HA5.out.on hb6).c1
      clear HCYC hb6 ck c0 co
      by_cases hcp : 0 < cy
      · have hcd : decide (0 < cy) = true := by simpa using hcp
        have hya : ∃ o ∈ s.L, o.h = y := by
          rcases HCYA.out with h | h
          · exact h.2.2
          · omega
        have HYA := hid hya
        obtain ⟨cz, hcz, HCZ⟩ := HI6.out.count HCC.out (by omega) z HZN.out
        have HCZA := hid hcz
        have HCZC := hid HCZ
        clear hcz HCZ HCYA hya hcp
        go_wp2_with fail
        refine (HCZC.out w6 (Below.refl _ _)).mono ?_
        rintro e w7 ⟨hb7, rfl⟩
        have HI7 := hid (HI6.out.next HCC.out hb7)
        have cz7 : w7.cell? ⟨gv, j, none⟩ = some (.int .u64 z) := HI7.out.two.g.cell HN.out HZ.out
        have ck7 : w7.cell? ⟨gv, k, none⟩ = some (.int .u64 y) := HI7.out.two.g.cell HN.out HY.out
        have ca7 : w7.cell? ⟨g5, 1, none⟩ = some (.int .i64 x.a) := ((HA5.out.on HB6.out).on hb7).c1
        clear HCZC hb7 HI6 HI5 cz6 ck6 ca6 HB6
        by_cases hcq : 0 < cz
        · have hcd2 : decide (0 < cz) = true := by simpa using hcq
          have hza : ∃ o ∈ s.L, o.h = z := by
            rcases HCZA.out with h | h
            · exact h.2.2
            · omega
          have HZA := hid hza
          have hsl := and1 x.a
          obtain ⟨sl, hsl2⟩ : ∃ sl : Int, sl = x.a % 2 := ⟨_, rfl⟩
          have hsl3 : 0 ≤ sl ∧ sl < 2 := by omega
          rw [← hsl2] at hsl
          clear HCZA hza hcq hsl2
          go_wp2_with fail
          obtain ⟨wd, hwd⟩ : ∃ wd, wd = w7.drew := ⟨_, rfl⟩
          have hd0 : Below w7.heap.size w7 wd := by rw [hwd]; exact (Below.refl _ _).drew
          have HId := hid (HI7.out.next HCC.out hd0)
          have S0 : w7.drew.cell? ⟨gv, k, none⟩ = some (.int .u64 y) ∧ w7.drew.cell? ⟨g5, 1, none⟩ = some (.int .i64 x.a) ∧ w7.drew.cell? ⟨gv, j, none⟩ = some (.int .u64 z) := ⟨by simpa using ck7, by simpa using ca7, by simpa using cz7⟩
          refine D.wp_region_mix [0, 0, 0, 0, 1, 0, 1, 0, 0, 0, 0, 1, 0, 3, 0, 0, 0, 0, 0, 0, 0] (fun W => W.cell? ⟨gv, k, none⟩ = some (.int .u64 y) ∧ W.cell? ⟨g5, 1, none⟩ = some (.int .i64 x.a) ∧ W.cell? ⟨gv, j, none⟩ = some (.int .u64 z)) (by kernel_rfl) (by kernel_rfl) S0 ?_
          rw [← hwd] at S0 ⊢
          clear hwd hd0
          repeat (first
            | (refine' C.wpMix_read _ rfl rfl _ _; rotate_left; (solve | (intro W hS; obtain ⟨q1, q2, q3⟩ := hS; go_simp) | (intro W hS; obtain ⟨q1, q2, q3⟩ := hS; go_simp; with_reducible rfl)); simp only [Act.put, List.setIfInBounds_toArray, List.set_cons_zero, List.set_cons_succ])
            | (refine' C.wpMix_value _ rfl rfl _ _; rotate_left; (solve | (intro W; go_simp) | (intro W; go_simp; with_reducible rfl)); simp only [Act.put, List.setIfInBounds_toArray, List.set_cons_zero, List.set_cons_succ]))
          try simp only [hsl]
          refine C.wpMix_call 27 #[.pointer (some ⟨pb, 0, none⟩), .int .u64 y, .int .i64 sl, .agg #[.int .i64 1, .int .u64 z]] (by decide) rfl (by go_simp) ?_
          refine (HCC.out.pu S wd _ s y sl ⟨1, z⟩ HId.out.b HId.out.rp HYN.out (by simp only [Nm]; omega) (by simp [Nm]) HZN.out).mono ?_
          rintro e w8 ⟨hf, s', g, f, er, vg, vf, rfl, htg, htf, hac, hR8⟩
          refine ⟨_, rfl, (fun h => by cases h), ?_⟩
          simp only [Act.put, List.setIfInBounds_toArray, List.set_cons_zero, List.set_cons_succ]
          obtain ⟨rfl, hcp, hG⟩ := HId.out.cp.put (HCC.out.ok HId.out.rp) (by omega) hsl3 HYA.out HZA.out hac
          obtain ⟨ag, cg, hvg, _⟩ := htg.ex
          obtain ⟨af, cf, hvf, _⟩ := htf.ex
          subst hvg hvf
          have HQ := hid (show CnS Rp w (.pointer (some ⟨pb, 0, none⟩)) (.slice (some ⟨gv, 0, none⟩) n kv) (.slice (some ⟨g2, 0, none⟩) n ko) (i + 1) (exS S wd w8) s' out w8 from ⟨by rw [hG]; exact HId.out.two.fr hf, exS_ge HId.out.ge HId.out.b.size, hR8, hcp, HId.out.b.trans (hf.below HId.out.b.size HId.out.ge)⟩)
          clear hf hR8 hac hcp hG htg htf HId HI7 HA5 HY HYN HZ HZN HYA HZA S0 cz7 ck7 ca7
          repeat (refine' C.wpMix_value _ rfl rfl _ _; rotate_left; (solve | (intro W; go_simp) | (intro W; go_simp; with_reducible rfl)); simp only [Act.put, List.setIfInBounds_toArray, List.set_cons_zero, List.set_cons_succ])
          refine C.wpMix_end ?_
          go_wp2_with fail
          refine (HQ.out.call HCC.out HLN.out (by omega)).mono ?_
          rintro e w9 ⟨rfl, hb9⟩
          have HI9 := hid (show CnI Rp w (.pointer (some ⟨pb, 0, none⟩)) (.slice (some ⟨gv, 0, none⟩) n kv) (.slice (some ⟨g2, 0, none⟩) n ko) (i + 1) w9 from ⟨_, _, _, HQ.out.next HCC.out hb9⟩)
          clear hb9 HQ
          go_wp2
          go_roundw
          case rel => exact ⟨i + 1, by omega, by omega, by go_num, HI9⟩
          case measure => simp [intOf]; omega
        · have hcd2 : decide (0 < cz) = false := by simpa using hcq
          have HQ := hid (show CnS Rp w (.pointer (some ⟨pb, 0, none⟩)) (.slice (some ⟨gv, 0, none⟩) n kv) (.slice (some ⟨g2, 0, none⟩) n ko) (i + 1) S s out w7 from ⟨HI7.out.two, HI7.out.ge, HI7.out.rp, HI7.out.cp.idle, HI7.out.b⟩)
          clear HI7 HY HYN HZ HZN HYA HCZA cz7 ck7 ca7
          go_wp2_with fail
          refine (HQ.out.call HCC.out HLN.out (by omega)).mono ?_
          rintro e w9 ⟨rfl, hb9⟩
          have HI9 := hid (show CnI Rp w (.pointer (some ⟨pb, 0, none⟩)) (.slice (some ⟨gv, 0, none⟩) n kv) (.slice (some ⟨g2, 0, none⟩) n ko) (i + 1) w9 from ⟨_, _, _, HQ.out.next HCC.out hb9⟩)
          clear hb9 HQ
          go_wp2
          go_roundw
          case rel => exact ⟨i + 1, by omega, by omega, by go_num, HI9⟩
          case measure => simp [intOf]; omega
      · have hcd : decide (0 < cy) = false := by simpa using hcp
        have HQ := hid (show CnS Rp w (.pointer (some ⟨pb, 0, none⟩)) (.slice (some ⟨gv, 0, none⟩) n kv) (.slice (some ⟨g2, 0, none⟩) n ko) (i + 1) S s out w6 from ⟨HI6.out.two, HI6.out.ge, HI6.out.rp, HI6.out.cp.idle, HI6.out.b⟩)
        clear HI6 HI5 HY HYN HZ HZN HCYA cz6 ck6 ca6
        go_wp2_with fail
        refine (HQ.out.call HCC.out HLN.out (by omega)).mono ?_
        rintro e w9 ⟨rfl, hb9⟩
        have HI9 := hid (show CnI Rp w (.pointer (some ⟨pb, 0, none⟩)) (.slice (some ⟨gv, 0, none⟩) n kv) (.slice (some ⟨g2, 0, none⟩) n ko) (i + 1) w9 from ⟨_, _, _, HQ.out.next HCC.out hb9⟩)
        clear hb9 HQ
        go_wp2
        go_roundw
        case rel => exact ⟨i + 1, by omega, by omega, by go_num, HI9⟩
        case measure => simp [intOf]; omega
    · obtain ⟨S, s, out, hI⟩ := HIi.out
      have HBE := hid hI.b
      clear hI HIi
      by_cases hl1 : i < l.length
      · have hl8 : ¬ i < 80 := by omega
        clear hgo
        go_wp2_with fail
        refine (HCC.out.awk wr HBE.out).mono ?_
        rintro e w9 ⟨hb9, rfl⟩
        have HB9 := hid (HBE.out.trans (hb9.mono HBE.out.size))
        clear hb9
        go_wp2
        go_ret
        exact ⟨rfl, HB9.out⟩
      · clear hgo
        go_wp2_with fail
        refine (HCC.out.awk wr HBE.out).mono ?_
        rintro e w9 ⟨hb9, rfl⟩
        have HB9 := hid (HBE.out.trans (hb9.mono HBE.out.size))
        clear hb9
        go_wp2
        go_ret
        exact ⟨rfl, HB9.out⟩
end Go.Proofs.Ytceokibalphgpaa
