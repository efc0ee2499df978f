/-
  The laws of layer 11: what is counted over the handles that were given.
-/
import Derived.Test.YtmkajdfajcodjaaHpS
import Derived.Test.YtmkajdfajcodjaaHpC
import Derived.Test.YtmkajdfajcodjaaHpL
namespace Go.Proofs.Ytmkajdfajcodjaa
open Go Go.ChangeShapes Go.WideShapes Go.ChangeAt Go.RowKit

/-- Links that are told: read only. -/
structure ToldL (W : World) (v : Value) (xs : List Lk) : Prop where
  ex : ∃ a c, v = .slice a xs.length c ∧ xs.length ≤ c ∧ c ≤ 9223372036854775807 ∧ (0 < xs.length → ∃ b o, a = some ⟨b, o, none⟩ ∧ b < W.heap.size ∧ ∀ (j : Nat) x, xs[j]? = some x → W.cell? ⟨b, o + j * 2, none⟩ = some (.int .i64 x.kind) ∧ W.cell? ⟨b, o + j * 2 + 1, none⟩ = some (.int .u64 x.h))
/-- The contract of the law's helper that collects links. -/
def LnC (w0 : World) (Rp : (Nat → Prop) → World → Value → Hs → Prop) : Prop :=
  ∀ (S : Nat → Prop) (w : World) (p : Value) (s : Hs) (h : Int) (m : Nat), Below w0.heap.size w0 w → Rp S w p s → Hn h → m ≤ 1000 → Calls Try.prog 33 #[p, .int .u64 h, .int .i64 m] w fun e w' => Below w.heap.size w w' ∧
    ∃ v, e = .returned v ∧ ToldL w' v ((linksOf s.L h).take m)
/-- How many of the first k hold it. -/
def sumT (L : HL) (given : List Int) (h : Int) (k : Nat) : Int := ((given.take k).map fun x => occ (linksOf L x) h).sum
theorem sumT_zero (L : HL) (given : List Int) (h : Int) : sumT L given h 0 = 0 := by simp [sumT]
theorem sumT_succ {L : HL} {given : List Int} {h : Int} {k : Nat} {x : Int} (hx : given[k]? = some x) : sumT L given h (k + 1) = sumT L given h k + occ (linksOf L x) h := by
  unfold sumT
  rw [List.take_add_one, hx, List.map_append, List.sum_append]
  simp
theorem occ_le (l : List Lk) (h : Int) : occ l h ≤ l.length := by
  unfold occ
  have := List.length_filter_le (fun x : Lk => x.kind == 1 && x.h == h) l
  omega
theorem occ_take {l : List Lk} {h : Int} {j : Nat} {x : Lk} (hx : l[j]? = some x) : occ (l.take (j + 1)) h = occ (l.take j) h + (if x.kind = 1 ∧ x.h = h then 1 else 0) := by
  rw [List.take_add_one, hx, occ_app]
  simp [occ_cons, occ_nil]
theorem links_len {B : Int} {L : HL} (h : Bd B 2 L) (x : Int) : (linksOf L x).length ≤ 2 := by
  unfold linksOf
  cases hf : fnd L x with
  | none => simp
  | some o => simp only; rw [(h o (fnd_some hf).1).2]; omega
theorem sumT_le {B : Int} {L : HL} (h : Bd B 2 L) (given : List Int) (y : Int) : ∀ k, k ≤ given.length → 0 ≤ sumT L given y k ∧ sumT L given y k ≤ 2 * k
  | 0, _ => by rw [sumT_zero]; omega
  | k + 1, hk => by
    have hx : given[k]? = some (given[k]'(by omega)) := List.getElem?_eq_getElem _
    rw [sumT_succ hx]
    have := sumT_le h given y k (by omega)
    have := links_len h (given[k]'(by omega))
    have := occ_le (linksOf L (given[k]'(by omega))) y
    have := occ_ge (linksOf L (given[k]'(by omega))) y
    omega
theorem count_of {out : Int → Int} {L : HL} (h : CInv out L []) (x : Int) : (match whl L x with | some o => o.count | none => 0) = out x + ind L x := by
  unfold whl
  cases hf : fnd L x with
  | none =>
    have := h.dead x (fnd_none.1 hf)
    simp only
    omega
  | some o =>
    obtain ⟨ho, he⟩ := fnd_some hf
    simp only [(h.own o ho).1, if_true]
    have := h.cnt o ho
    rw [occ_nil, he] at this
    omega
theorem count_all {out : Int → Int} {L : HL} (h : CInv out L []) {given : List Int} (hg : given.Nodup) (ha : ∀ o ∈ L, o.h ∈ given) (x : Int) : (match whl L x with | some o => o.count | none => 0) = out x + sumT L given x given.length := by
  rw [count_of h]
  unfold sumT
  rw [List.take_length, sum_given h.nd x hg ha]
set_option maxRecDepth 100000 in
set_option maxHeartbeats 8000000 in
theorem counted_any (w0 w : World) (Rp : (Nat → Prop) → World → Value → Hs → Prop) (HC : HeapC w0 Rp) (HL : LnC w0 Rp) (S : Nat → Prop) (p : Value) (s : Hs) (out : Int → Int) (B : Int) (given : List Int) (vg vo : Value)
    (hB : Below w0.heap.size w0 w) (hR : Rp S w p s) (hg : Told TU u64v w vg given) (ho : Told 3 (.int .i64) w vo (given.map out)) (hI : CInv out s.L []) (hBd : Bd B 2 s.L) (hnd : given.Nodup) (hall : ∀ o ∈ s.L, o.h ∈ given) (hlen : given.length ≤ 80) (hHn : ∀ h ∈ given, Hn h) (hout : ∀ h, 0 ≤ out h ∧ out h ≤ 100) :
    Calls Try.prog 28 #[p, vg, vo] w fun e w' => e = .returned (.bool true) ∧ Below w.heap.size w w' := by
  obtain ⟨ag, cg, rfl, hcg1, hcg2, hG⟩ := hg.ex
  obtain ⟨ao, co, rfl, hco1, hco2, hO⟩ := ho.ex
  rw [List.length_map] at hco1 hO ⊢
  obtain ⟨pb, rfl⟩ := HC.ptr hR
  obtain ⟨N, hN⟩ : ∃ N, N = given.length := ⟨_, rfl⟩
  rw [← hN] at hcg1 hco1 hG hO hlen ⊢
  have HNN := hid hN
  have HG := hid hG
  have HO := hid hO
  have HH := hid hHn
  have HOU := hid hout
  have HLT := hid (HC.lt hR)
  have HLN := hid (fun (W : World) (hb : Below w.heap.size w W) (h : Int) (hh : Hn h) => HL S W _ s h 9 (hB.trans (hb.mono hB.size)) (HC.keep hR (fun b hb' => hb.block b (HLT.out b hb')) hb.size) hh (by omega))
  have HCN := hid (fun (W : World) (hb : Below w.heap.size w W) (h : Int) (hh : Hn h) => HC.cn S W _ s h (hB.trans (hb.mono hB.size)) (HC.keep hR (fun b hb' => hb.block b (HLT.out b hb')) hb.size) hh)
  have HCA := hid (fun x => count_all hI hnd hall x)
  have HTK := hid (fun x => List.take_of_length_le (show (linksOf s.L x).length ≤ 9 by have := links_len hBd x; omega))
  have HLL := hid (fun x => links_len hBd x)
  have HSU := hid (fun y k hk => sumT_le hBd given y k hk)
  have HB0 := hid (Below.refl w.heap.size w)
  clear hg ho hG hO hHn hout hI hBd hnd hall HC HL hB hR hN HLT
  go_enter Try.func28, Try.ntmps28
  go_wp2
  go_loopw [7] (fun q wr => ∃ i : Nat, i ≤ N ∧ q = .int .i64 i ∧ RowKit.Hid (Below w.heap.size w wr)) (fun q _ => N - (intOf q).toNat)
  case atStart => exact ⟨0, by omega, rfl, HB0⟩
  case round =>
    obtain ⟨i, hi, rfl, HBi⟩ := hrel
    clear HB0
    by_cases hiN : i < N
    · have hx : given[i]? = some (given[i]'(by rw [← HNN.out]; exact hiN)) := List.getElem?_eq_getElem _
      generalize given[i]'(by rw [← HNN.out]; exact hiN) = x at hx
      obtain ⟨bg, og, rfl, hbg, hcg⟩ := HG.out (by omega)
      obtain ⟨bo, oo, rfl, hbo, hco⟩ := HO.out (by omega)
      have co0 : wr.cell? ⟨bo, oo + i, none⟩ = some (.int .i64 (out x)) := (World.cell?_of_block (w := w) (w' := wr) (a := ⟨bo, oo + i, none⟩) (HBi.out.block bo hbo)).trans (hco i _ (by rw [List.getElem?_map, List.getElem?_map, hx]; rfl))
      have HCG := hid (fun (W : World) (hb : Below w.heap.size w W) (j : Nat) (y : Int) (hy : given[j]? = some y) => (show W.cell? ⟨bg, og + j, none⟩ = some (.int .u64 y) from (World.cell?_of_block (w := w) (w' := W) (a := ⟨bg, og + j, none⟩) (hb.block bg hbg)).trans (hcg j _ (by rw [List.getElem?_map, hy]; rfl))))
      have HX := hid hx
      clear hx hcg hco hbg hbo
      go_wp2
      go_loopw [9, 8] (fun q v wr => ∃ (k : Nat) (n : Int), k ≤ N ∧ q = .int .i64 k ∧ v = .int .i64 n ∧ RowKit.Hid (n = out x + sumT s.L given x k) ∧ RowKit.Hid (Below w.heap.size w wr)) (fun q _ _ => N - (intOf q).toNat)
      case atStart => exact ⟨0, out x, by omega, rfl, rfl, hid (by rw [sumT_zero, Int.add_zero]), HBi⟩
      case round =>
        obtain ⟨k, n, hk, rfl, rfl, HN, HBk⟩ := hrel
        clear HBi co0
        by_cases hkN : k < N
        · have hy : given[k]? = some (given[k]'(by rw [← HNN.out]; exact hkN)) := List.getElem?_eq_getElem _
          generalize given[k]'(by rw [← HNN.out]; exact hkN) = y at hy
          have cy := HCG.out wr HBk.out k y hy
          have hyn := HH.out y (List.mem_of_getElem? hy)
          have HY := hid hy
          have HYN := hid hyn
          have hn1 : 0 ≤ n ∧ n ≤ 400 := by have h1 := HN.out; have h2 := HOU.out x; have h3 := HSU.out x k (by rw [← HNN.out]; omega); omega
          clear hy hyn
          go_wp2_with fail
          refine (HLN.out wr HBk.out y HYN.out).mono ?_
          rintro e w1 ⟨hb1, v1, rfl, ht1⟩
          rw [HTK.out y] at ht1
          obtain ⟨al, cl, rfl, hcl1, hcl2, hcl3⟩ := ht1.ex
          obtain ⟨l, hl⟩ : ∃ l, l = linksOf s.L y := ⟨_, rfl⟩
          have hl2 := HLL.out y
          rw [← hl] at hcl1 hcl3 hl2 ⊢
          obtain ⟨m, hm⟩ : ∃ m, m = l.length := ⟨_, rfl⟩
          rw [← hm] at hcl1 hcl3 hl2 ⊢
          have HM := hid hm
          have HLI := hid hl
          have HLC := hid hcl3
          have HB1 := hid (HBk.out.trans (hb1.mono HBk.out.size))
          have HBs := hid (Below.refl w1.heap.size w1)
          clear hm hl hcl3 ht1 hb1 HBk cy
          go_wp2
          go_loopw [11, 8] (fun q v wr => ∃ (j : Nat) (n' : Int), j ≤ m ∧ q = .int .i64 j ∧ v = .int .i64 n' ∧ RowKit.Hid (n' = n + occ (l.take j) x) ∧ RowKit.Hid (Below w1.heap.size w1 wr)) (fun q _ _ => m - (intOf q).toNat)
          case atStart => exact ⟨0, n, by omega, rfl, rfl, hid (by rw [List.take_zero, occ_nil, Int.add_zero]), HBs⟩
          case round =>
            obtain ⟨j, n', hj, rfl, rfl, HN', HBj⟩ := hrel
            clear HBs
            by_cases hjm : j < m
            · have hz : l[j]? = some (l[j]'(by rw [← HM.out]; exact hjm)) := List.getElem?_eq_getElem _
              generalize l[j]'(by rw [← HM.out]; exact hjm) = z at hz
              obtain ⟨bl, ol, rfl, hbl, hcl⟩ := HLC.out (by omega)
              obtain ⟨c0, c1⟩ := hcl j z hz
              have e0 : wr.cell? ⟨bl, ol + j * 2, none⟩ = some (.int .i64 z.kind) := (World.cell?_of_block (w := w1) (w' := wr) (a := ⟨bl, ol + j * 2, none⟩) (HBj.out.block bl hbl)).trans c0
              have e1 : wr.cell? ⟨bl, ol + j * 2 + 1, none⟩ = some (.int .u64 z.h) := (World.cell?_of_block (w := w1) (w' := wr) (a := ⟨bl, ol + j * 2 + 1, none⟩) (HBj.out.block bl hbl)).trans c1
              have e2 : wr.cell? ⟨bg, og + i, none⟩ = some (.int .u64 x) := HCG.out wr (HB1.out.trans (HBj.out.mono HB1.out.size)) i x HX.out
              have hn2 : 0 ≤ n' ∧ n' ≤ 500 := by have h1 := HN'.out; have h2 := occ_ge (l.take j) x; have h3 := occ_le (l.take j) x; rw [List.length_take] at h3; omega
              have HBd := hid (HBj.out.drew)
              have HZ := hid (occ_take (h := x) hz)
              obtain ⟨zk, zh⟩ := z
              simp only at e0 e1 HZ
              clear hz hcl hbl c0 c1
              by_cases hk1 : zk = 1
              · subst hk1
                by_cases hhx : zh = x
                · subst hhx
                  have hne : (zh == zh) = true := by simp
                  have HE := hid (show n' + 1 = n + occ (l.take (j + 1)) zh by rw [HZ.out, HN'.out]; simp; omega)
                  clear HZ HN'
                  go_wp2
                  refine D.wp_region_mix [0, 0, 0, 0, 1, 0, 0, 0, 0, 0, 0, 1, 0, 0, 0, 1, 0, 0] (fun W => W = wr.drew) (by kernel_rfl) (by kernel_rfl) rfl ?_
                  repeat (first
                    | (refine' C.wpMix_value _ rfl rfl _ _; rotate_left; (solve | (intro W; go_simp) | (intro W; go_simp; with_reducible rfl)); simp only [Act.put, List.setIfInBounds_toArray, List.set_cons_zero, List.set_cons_succ])
                    | (refine' C.wpMix_read _ rfl rfl _ _; rotate_left; (solve | (rintro W rfl; go_simp) | (rintro W rfl; go_simp; with_reducible rfl)); simp only [Act.put, List.setIfInBounds_toArray, List.set_cons_zero, List.set_cons_succ]))
                  refine C.wpMix_end ?_
                  go_wp2
                  go_roundw
                  case rel => exact ⟨j + 1, n' + 1, by omega, by go_num, by go_num, HE, HBd⟩
                  case measure => simp [intOf]; omega
                · have hne : (zh == x) = false := by simpa using hhx
                  have HE := hid (show n' = n + occ (l.take (j + 1)) x by rw [HZ.out, HN'.out]; simp [hhx])
                  clear HZ HN' hhx
                  go_wp2
                  refine D.wp_region_mix [0, 0, 0, 0, 1, 0, 0, 0, 0, 0, 0, 1, 0, 0, 0, 1, 0, 0] (fun W => W = wr.drew) (by kernel_rfl) (by kernel_rfl) rfl ?_
                  repeat (first
                    | (refine' C.wpMix_value _ rfl rfl _ _; rotate_left; (solve | (intro W; go_simp) | (intro W; go_simp; with_reducible rfl)); simp only [Act.put, List.setIfInBounds_toArray, List.set_cons_zero, List.set_cons_succ])
                    | (refine' C.wpMix_read _ rfl rfl _ _; rotate_left; (solve | (rintro W rfl; go_simp) | (rintro W rfl; go_simp; with_reducible rfl)); simp only [Act.put, List.setIfInBounds_toArray, List.set_cons_zero, List.set_cons_succ]))
                  refine C.wpMix_end ?_
                  go_wp2
                  go_roundw
                  case rel => exact ⟨j + 1, n', by omega, by go_num, rfl, HE, HBd⟩
                  case measure => simp [intOf]; omega
              · have hne : (zk == 1) = false := by simpa using hk1
                have HE := hid (show n' = n + occ (l.take (j + 1)) x by rw [HZ.out, HN'.out]; simp [hk1])
                clear HZ HN' hk1
                go_wp2
                refine D.wp_region_mix [0, 0, 0, 0, 1, 0, 0, 0, 0, 0, 0, 1, 0, 0, 0, 1, 0, 0] (fun W => W = wr.drew) (by kernel_rfl) (by kernel_rfl) rfl ?_
                repeat (first
                  | (refine C.wpMix_not (by decide) rfl ?_; simp only [Act.put, List.setIfInBounds_toArray, List.set_cons_zero, List.set_cons_succ])
                  | (refine' C.wpMix_value _ rfl rfl _ _; rotate_left; (solve | (intro W; go_simp) | (intro W; go_simp; with_reducible rfl)); simp only [Act.put, List.setIfInBounds_toArray, List.set_cons_zero, List.set_cons_succ])
                  | (refine' C.wpMix_read _ rfl rfl _ _; rotate_left; (solve | (rintro W rfl; go_simp) | (rintro W rfl; go_simp; with_reducible rfl)); simp only [Act.put, List.setIfInBounds_toArray, List.set_cons_zero, List.set_cons_succ]))
                refine C.wpMix_end ?_
                go_wp2
                go_roundw
                case rel => exact ⟨j + 1, n', by omega, by go_num, rfl, HE, HBd⟩
                case measure => simp [intOf]; omega
            · obtain rfl : j = m := by omega
              have he : n' = out x + sumT s.L given x (k + 1) := by
                rw [HN'.out, HN.out, sumT_succ HY.out, ← HLI.out, List.take_of_length_le (by rw [← HM.out]; exact Nat.le_refl _)]
                omega
              have HE := hid he
              have HBE := hid (HB1.out.trans (HBj.out.mono HB1.out.size))
              clear he HN HN' HB1 HBj HLC HM HLI
              go_wp2
              go_roundw
              case rel => exact ⟨k + 1, n', by omega, by go_num, rfl, HE, HBE⟩
              case measure => simp [intOf]; omega
        · obtain rfl : k = N := by omega
          have cx := HCG.out wr HBk.out i x HX.out
          have hc : Calls Try.prog 26 #[.pointer (some ⟨pb, 0, none⟩), .int .u64 x] wr fun e w' => Below wr.heap.size wr w' ∧ e = .returned (.int .u32 n) := (HCN.out wr HBk.out x (HH.out x (List.mem_of_getElem? HX.out))).mono (by
            rintro e w' ⟨hb, rfl⟩
            refine ⟨hb, ?_⟩
            have h2 := HCA.out x
            rw [← HNN.out, ← HN.out] at h2
            exact congrArg (fun z => Ending.returned (.int .u32 z)) h2)
          have HCX := hid hc
          have hn1 : 0 ≤ n ∧ n ≤ 400 := by have h1 := HN.out; have h2 := HOU.out x; have h3 := HSU.out x k (by rw [← HNN.out]; omega); omega
          have hnn : (n != n) = false := by simp
          clear hc
          go_wp2_with fail
          refine HCX.out.mono ?_
          rintro e w2 ⟨hb2, rfl⟩
          have HB2 := hid (HBk.out.trans (hb2.mono HBk.out.size))
          clear hb2 HCX HN HBk cx
          go_wp2
          go_roundw
          case rel => exact ⟨i + 1, by omega, by go_num, HB2⟩
          case measure => simp [intOf]; omega
    · obtain rfl : i = N := by omega
      go_wp2
      go_ret
      exact ⟨rfl, HBi.out⟩
end Go.Proofs.Ytmkajdfajcodjaa
