/-
  The laws of layer 11: HeapInners.
-/
import Derived.Test.YtmkajdfajcodjaaHpS
import Derived.Test.YtmkajdfajcodjaaHpW
namespace Go.Proofs.Ytmkajdfajcodjaa
open Go Go.ChangeShapes Go.WideShapes Go.ChangeAt Go.RowKit

/-- No place was dropped yet: so many are taken. -/
structure Frs (A : Ar) (most n : Nat) : Prop where
  m : A.most = most
  f : A.F = []
  l : A.L.length = n
  t : ∀ (i : Nat) sp, A.L[i]? = some sp → sp.t = true ∧ sp.g = A.first
theorem frs_new (most f : Nat) : Frs (Go.Proofs.Ytmkajdfajcodjaa.new most f) most 0 := ⟨rfl, rfl, rfl, fun i sp h => by simp [Go.Proofs.Ytmkajdfajcodjaa.new] at h⟩
theorem Frs.put {A A' : Ar} {most n i g : Nat} {x : Int} (h : Frs A most n) (hp : Put A x i g A') : Frs A' most (n + 1) ∧ i = n ∧ g = A.first ∧ A'.first = A.first := by
  cases hp with
  | again F i s hF hs => rw [h.f] at hF; simp at hF
  | fresh hF hl =>
    refine ⟨⟨h.m, h.f, by simp [h.l], fun j sp hj => ?_⟩, h.l, rfl, rfl⟩
    rcases Nat.lt_or_ge j A.L.length with hjl | hjl
    · rw [List.getElem?_append_left hjl] at hj
      exact h.t j sp hj
    · rw [List.getElem?_append_right hjl] at hj
      have := List.mem_of_getElem? hj
      rw [List.mem_singleton.1 this]
      exact ⟨rfl, rfl⟩
theorem Frs.full {A : Ar} {most n : Nat} (h : Frs A most n) (hn : n < most) : ¬ Full A := fun hf => by have := hf.2; have := h.m; have := h.l; omega
/-- A number list that came in. -/
structure RwZ (W : World) (B : Nat) (ad : Option Addr) (l : List Int) : Prop where
  at_ : 0 < l.length → ∃ b o, ad = some ⟨b, o, none⟩ ∧ b < B
  rows : ∀ b o, ad = some ⟨b, o, none⟩ → ∀ (i : Nat) x, l[i]? = some x → W.cell? ⟨b, o + i, none⟩ = some (.int .i64 x)
  ok : ∀ x ∈ l, Nm x
theorem RwZ.below {W W' : World} {B : Nat} {ad : Option Addr} {l : List Int} (h : RwZ W B ad l) (hB : Below B W W') : RwZ W' B ad l :=
  ⟨h.at_, fun b o he i x hx => by
    obtain ⟨b', o', h1, h2⟩ := h.at_ (by have := (List.getElem?_eq_some_iff.1 hx).1; omega)
    rw [he] at h1; cases h1
    exact (World.cell?_of_block (w := W) (w' := W') (a := ⟨b, o + i, none⟩) (hB.block b h2)).trans (h.rows b o he i x hx), h.ok⟩
/-- A whole with its inners, under way. -/
structure InnI (Rp : (Nat → Prop) → World → Value → Hs → Prop) (w : World) (p v : Value) (o c : Int) (ls : List Int) (wr : World) : Prop where
  ex : ∃ S s, RowS TU u64v S w.heap.size wr v (o :: ls) ∧ (∀ b, S b → w.heap.size ≤ b) ∧ Rp S wr p s ∧ s.L = inn o c ls ∧ s.top = 99 ∧ Frs s.A 40 (1 + ls.length)
  b : Below w.heap.size w wr
theorem inn_more {o c h : Int} {ls : List Int} (h0 : o ≠ 0) (ho : o ∉ ls) : addIn (inn o c ls) o h ++ [newOb h o 1] = inn o c (ls ++ [h]) := by
  unfold addIn
  rw [if_neg h0]
  unfold inn
  rw [List.map_cons, List.map_map, List.map_append]
  have e : (ls.map ((fun p : Ob => if p.h = o then { p with inners := p.inners ++ [h] } else p) ∘ fun h => (⟨h, o, 1, 0, [⟨0, 0⟩], []⟩ : Ob))) = ls.map fun h => ⟨h, o, 1, 0, [⟨0, 0⟩], []⟩ := by
    refine List.map_congr_left fun x hx => ?_
    have : x ≠ o := fun e => ho (e ▸ hx)
    simp [this]
  rw [e]
  simp [newOb]
theorem inn_ndl {s : Hs} {o c : Int} {ls : List Int} (h : HOk s) (hL : s.L = inn o c ls) : (o :: ls).Nodup ∧ o ≠ 0 ∧ ∀ x ∈ o :: ls, Hn x := by
  have h1 := h.nd
  rw [hL] at h1
  unfold Nd at h1
  rw [inn_h] at h1
  have hg : ∀ x ∈ o :: ls, 1 ≤ x ∧ x ≤ 18446744073709551615 := fun x hx => by
    have : x ∈ s.L.map (·.h) := by rw [hL, inn_h]; exact hx
    obtain ⟨p, hp, rfl⟩ := List.mem_map.1 this
    exact h.nz _ (h.sub p hp)
  exact ⟨h1, by have := hg o (by simp); omega, fun x hx => by have := hg x hx; simp only [Hn]; omega⟩
theorem inn_fnd {o c : Int} {ls : List Int} (hn : (o :: ls).Nodup) : fnd (inn o c ls) o = some ⟨o, 0, c, 0, [], ls⟩ := fnd_mem (o := ⟨o, 0, c, 0, [], ls⟩) (inn_nd hn) (by simp [inn])
theorem inn_fndi {o c h : Int} {ls : List Int} (hn : (o :: ls).Nodup) (hh : h ∈ ls) : fnd (inn o c ls) h = some ⟨h, o, 1, 0, [⟨0, 0⟩], []⟩ := fnd_mem (o := ⟨h, o, 1, 0, [⟨0, 0⟩], []⟩) (inn_nd hn) (by
  unfold inn
  exact List.mem_cons_of_mem _ (List.mem_map.2 ⟨h, hh, rfl⟩))
set_option maxRecDepth 100000 in
set_option maxHeartbeats 8000000 in
theorem HeapInners_any (w : World) (Rp : (Nat → Prop) → World → Value → Hs → Prop) (HC : HeapC w Rp) (n : Int) (hn : 0 ≤ n ∧ n ≤ 255) (ad : Option Addr) (c : Nat) (l : List Int) (hl : RwZ w w.heap.size ad l) (hll : l.length ≤ 9223372036854775807) :
    Calls Try.prog 7 #[.int .u8 n, .slice ad l.length c] w fun e w' => e = .returned (.bool true) ∧ Below w.heap.size w w' := by
  have HCC := hid HC
  have HL := hid hl
  have HN := hid (HC.new 40 99 w (Below.refl _ _) (by simp [Nm]) (by simp [U32]))
  obtain ⟨i0, hi, hz0, hz1, hz2⟩ := info_parts infoU
  have hi' := hid hi
  have hz0' := hid hz0
  have hz1' := hid hz1
  have hz2' := hid hz2
  clear HC hl hi hz0 hz1 hz2
  go_enter Try.func7, Try.ntmps7
  go_wp2_with fail
  refine HN.out.mono ?_
  rintro e w1 ⟨hb1, hx⟩
  rw [if_pos (by omega)] at hx
  obtain ⟨p, S, rfl, hS, hR⟩ := hx
  obtain ⟨pb, rfl⟩ := HCC.out.ptr hR
  have HB1 := hid hb1
  have HS := hid hS
  have HR := hid hR
  clear hb1 hS hR HN
  go_wp2_with fail
  refine (HCC.out.make S w1 _ _ 0 0 HB1.out HR.out (by simp [Nm]) (by simp [Hn])).mono ?_
  rintro e w2 ⟨hf, s', hh, er, rfl, hmk, hR2⟩
  have hfr0 := frs_new 40 1
  cases hmk with
  | arg h => omega
  | stale h h0 => exact absurd rfl h0
  | inner h h0 => exact absurd rfl h0
  | full h h0 hF => exact absurd hF (hfr0.full (by omega))
  | @ok h h0 ii gg A' hp =>
  obtain ⟨hf1, hii, hgg, hfi⟩ := hfr0.put hp
  obtain ⟨o, ho⟩ : ∃ o, o = hand ii gg := ⟨_, rfl⟩
  rw [← ho] at hR2 ⊢
  have hsz := (HCC.out.ok hR2)
  have ho1 : 1 ≤ o ∧ o ≤ 18446744073709551615 := hsz.nz o (by simp)
  have hb2 : Below w.heap.size w w2 := HB1.out.trans (hf.below HB1.out.size HS.out)
  have HB2 := hid hb2
  have HR2 := hid hR2
  have HF2 := hid hf1
  have HS2 := hid (exS_ge (w' := w2) HS.out HB1.out.size)
  have hlt2 := HCC.out.lt hR2
  obtain ⟨w3, hw3⟩ : ∃ x, x = w2.alloc (.cells #[.int .u64 o] 34) := ⟨_, rfl⟩
  have hb3 : Below w2.heap.size w2 w3 := by rw [hw3]; exact (Below.refl _ _).alloc (Nat.le_refl _) _
  have hrow : RowS TU u64v (exS S w1 w2) w.heap.size w3 (.slice (some ⟨w2.heap.size, 0, none⟩) 1 1) [o] := ⟨by rw [hw3]; exact World.ownsRow_lit w2 #[.int .u64 o] 1 hb2.size (by unfold maxLen; omega) rfl, fun j hj hs => by
    simp [Value.ownBlock] at hj
    subst hj
    have := hlt2 _ hs
    omega⟩
  have HI := hid (show InnI Rp w (.pointer (some ⟨pb, 0, none⟩)) (.slice (some ⟨w2.heap.size, 0, none⟩) 1 1) o 1 [] w3 from ⟨⟨_, _, hrow, HS2.out, HCC.out.keep hR2 (fun b hb => hb3.block b (hlt2 b hb)) hb3.size, rfl, rfl, hf1⟩, hb2.trans (hb3.mono hb2.size)⟩)
  have HW3 := hid hw3
  clear hf hR2 hp h h0 hsz hfr0 HB1 HR ho hii hgg hfi hf1 hb3 hrow hw3 hlt2 hb2 HB2 HR2 HF2 HS2
  obtain ⟨m, hm⟩ : ∃ m : Nat, n.tmod 30 = (m : Int) := ⟨(n.tmod 30).toNat, by rw [Int.tmod_eq_emod_of_nonneg hn.1]; omega⟩
  have hm30 : m < 30 := by rw [Int.tmod_eq_emod_of_nonneg hn.1] at hm; omega
  have hm2 : n % 30 = (m : Int) := by rw [Int.tmod_eq_emod_of_nonneg hn.1] at hm; exact hm
  go_upto_region 6 with (fail)
  change Code.wp _ _ _ _ (w2.alloc (.cells #[.int .u64 o] 34))
  rw [← HW3.out]
  obtain ⟨v3, hv3⟩ : ∃ v, v = Value.slice (some ⟨w2.heap.size, 0, none⟩) 1 1 := ⟨_, rfl⟩
  rw [← hv3] at HI ⊢
  clear HW3 hv3
  go_wp2
  go_loopw [10, 9] (fun p v wr => ∃ (i : Nat) (ls : List Int), i ≤ m ∧ p = .int .i64 i ∧ ls.length = i ∧ RowKit.Hid (InnI Rp w (.pointer (some ⟨pb, 0, none⟩)) v o 1 ls wr)) (fun p _ _ => m - (intOf p).toNat)
  case atStart => exact ⟨0, [], by omega, rfl, rfl, HI⟩
  case round =>
    obtain ⟨i, ls, him, rfl, hls, HIi⟩ := hrel
    clear HI
    by_cases hlt : i < m
    · obtain ⟨S, s, h1, h2, h3, h4, h5, h6⟩ := HIi.out.ex
      obtain ⟨hnd, ho0, hhn⟩ := inn_ndl (HCC.out.ok h3) h4
      have HB := hid HIi.out.b
      have H1 := hid h1
      have H2 := hid h2
      have H3 := hid h3
      have H4 := hid h4
      have H5 := hid h5
      have H6 := hid h6
      have HND := hid hnd
      have HON := hid (hhn o (by simp))
      clear h1 h2 h3 h4 h5 h6 hnd hhn HIi
      go_wp2_with fail
      refine (HCC.out.make S wr _ s 1 o HB.out H3.out (by simp [Nm]) HON.out).mono ?_
      rintro e w4 ⟨hf, s', hh, er, rfl, hmk, hR4⟩
      have hfo := inn_fnd (c := 1) HND.out
      rw [← H4.out] at hfo
      cases hmk with
      | arg h => omega
      | stale h h0 hf0 => rw [hfo] at hf0; cases hf0
      | inner h h0 ob hf0 ho0 => rw [hfo] at hf0; cases hf0; exact absurd rfl ho0
      | full h h0 hF => exact absurd hF (H6.out.full (by omega))
      | @ok h h0 ii gg A' hp =>
      obtain ⟨hf6, _, _, _⟩ := H6.out.put hp
      obtain ⟨y, hy⟩ : ∃ y, y = hand ii gg := ⟨_, rfl⟩
      rw [← hy] at hR4 ⊢
      have hL4 : addIn s.L o y ++ [newOb y o (1 : Int).toNat] = inn o 1 (ls ++ [y]) := by
        rw [H4.out]
        exact inn_more ho0 (List.nodup_cons.1 HND.out).1
      have hok4 := HCC.out.ok hR4
      obtain ⟨hnd4, _, hhn4⟩ := inn_ndl hok4 hL4
      have hb4 : Below w.heap.size w w4 := HB.out.trans (hf.below HB.out.size H2.out)
      have HB4 := hid hb4
      have HR4 := hid hR4
      have H14 := hid (H1.out.fr hf)
      have HS4 := hid (exS_ge (w' := w4) H2.out HB.out.size)
      have HL4 := hid hL4
      have HN4 := hid hnd4
      have HY4 := hid (hhn4 y (by simp))
      have HF4 := hid hf6
      clear hf hR4 hfo h h0 hp hf6 hy hL4 hok4 hnd4 hhn4 hb4 H1 H2 H3 H4 H6 HB HND HON
      go_wp2_with fail
      refine (HCC.out.make _ w4 _ _ 1 y HB4.out HR4.out (by simp [Nm]) HY4.out).mono ?_
      rintro e w5 ⟨hf, s5, h5', er, rfl, hmk, hR5⟩
      have hfo := inn_fndi (c := 1) (h := y) HN4.out (by simp)
      rw [← HL4.out] at hfo
      cases hmk with
      | arg h => omega
      | stale h h0 hf0 => rw [hfo] at hf0; cases hf0
      | full h h0 hF =>
        obtain ⟨ob, e1, e2⟩ := h0 (by have := HY4.out; intro e; subst e; exact absurd ((HCC.out.ok HR4.out).nz 0 (by simp)) (by omega))
        rw [hfo] at e1; cases e1
        exact absurd e2 ho0
      | ok h h0 hp =>
        obtain ⟨ob, e1, e2⟩ := h0 (by have := HY4.out; intro e; subst e; exact absurd ((HCC.out.ok HR4.out).nz 0 (by simp)) (by omega))
        rw [hfo] at e1; cases e1
        exact absurd e2 ho0
      | inner h h0 ob hf0 ho1 =>
      have hb5 : Below w.heap.size w w5 := HB4.out.trans (hf.below HB4.out.size HS4.out)
      have hr5 := H14.out.fr hf
      obtain ⟨av, kv, hv, hkv1, hkv2, hgv⟩ := hr5.form
      subst hv
      obtain ⟨n1, hn1⟩ : ∃ n, n = (o :: ls).length := ⟨_, rfl⟩
      rw [← hn1] at hr5 hkv1 ⊢
      have hn1i : n1 ≤ i + 1 := by rw [hn1]; simp [hls]
      have HN1 := hid hn1
      clear hn1
      have HB5 := hid hb5
      have HR5 := hid hR5
      have H15 := hid hr5
      have HS5 := hid (exS_ge (w' := w5) HS4.out HB4.out.size)
      have HLT5 := hid (HCC.out.lt hR5)
      clear hf hR5 hfo h h0 hf0 ho1 hb5 hr5 hgv HB4 HR4 H14 HS4
      go_wp2_with (first
        | (at_builtin; refine wpList_append_own_at _ (o := ⟨some 69, _, _, _, _, _⟩) rfl (.tmp 66) (.tmp 68) 43 rfl w.heap.size 34 i0 (.int .u64 0) 1 8 Try.underlying43 hi'.out hz0'.out hz1'.out hz2'.out rfl (by decide) (.slice av n1 kv) _ _ rfl (H15.out.own.alloc _) ⟨w5.heap.size, 0, none⟩ 1 1 [.int .u64 y] rfl rfl (World.news_of_block (heap_alloc_new w5 _)) (fun u hu => by rw [List.mem_singleton.1 hu]; rfl) (by rw [← HN1.out]; unfold maxLen; omega) (by rw [← HN1.out]; omega) (by have := HB5.out.size; simp; omega) ?_; intro vz wz hownz hgrowz hnilz hatz; have HOz := hid hownz; have HGz := hid hgrowz; have HAz := hid hatz; clear hownz hgrowz hnilz hatz)
        | fail)
      obtain ⟨hr7, hf7⟩ := H15.out.app (x := y) HLT5.out HOz.out HGz.out HAz.out
      have hob : ∀ k, (Value.slice av n1 kv).ownBlock = some k → w.heap.size ≤ k ∧ ¬ exS (exS S wr w4) w4 w5 k := fun k hk => ⟨(H15.out.own.lt k hk).1, H15.out.off k hk⟩
      have HI6 := hid (show InnI Rp w (.pointer (some ⟨pb, 0, none⟩)) vz o 1 (ls ++ [y]) wz from ⟨⟨_, _, hr7, HS5.out, HCC.out.keep HR5.out (fun b hb => hf7.block b (HLT5.out b hb) (fun hk => (hob b hk).2 hb)) hf7.size, HL4.out, H5.out, by have := HF4.out; rw [List.length_append]; exact this⟩, HB5.out.trans (hf7.below HB5.out.size fun k hk => (hob k hk).1)⟩)
      clear hr7 hf7 HOz HGz HAz HF4 HLT5 HR5 H15 HS5 HB5 HL4 hob HN4 HY4
      go_wp2
      go_roundw
      case rel => exact ⟨i + 1, ls ++ [y], by omega, by go_num, by simp [hls], HI6⟩
      case measure => simp [intOf]; omega
    · obtain rfl : i = m := by omega
      have hb := HIi.out.b
      obtain ⟨S, s, h1, h2, h3, h4, h5, h6⟩ := HIi.out.ex
      obtain ⟨hnd, ho0, hhn⟩ := inn_ndl (HCC.out.ok h3) h4
      have HND := hid hnd
      have HHN := hid hhn
      obtain ⟨av, kv, hv, hkv1, hkv2, hgv⟩ := h1.form
      obtain ⟨gv, hgv1, hgv2, hgv3, hgv4⟩ := hgv (by simp)
      subst hv hgv1
      obtain ⟨n1, hn1⟩ : ∃ n, n = (o :: ls).length := ⟨_, rfl⟩
      have HN1 := hid hn1
      rw [← hn1] at h1 hkv1 ⊢
      have hn1a : 1 ≤ n1 := by rw [hn1]; simp
      have hn1b : n1 ≤ 30 := by rw [hn1]; simp; omega
      have HIu := hid (show InnI Rp w (.pointer (some ⟨pb, 0, none⟩)) (.slice (some ⟨gv, 0, none⟩) n1 kv) o 1 ls wr from ⟨⟨S, s, h1, h2, h3, h4, h5, h6⟩, hb⟩)
      have PK : ∀ (z : Int), Nm z → ∃ (q : Nat) (u : Int), z % (n1 : Int) = (q : Int) ∧ q < n1 ∧ (o :: ls)[q]? = some u := fun z hz => by
        have := Int.emod_nonneg z (show (n1 : Int) ≠ 0 by omega)
        have := Int.emod_lt_of_pos z (show (0 : Int) < n1 by omega)
        have hq : (z % (n1 : Int)).toNat < (o :: ls).length := by have := HN1.out; omega
        exact ⟨(z % (n1 : Int)).toNat, _, by omega, by omega, List.getElem?_eq_getElem hq⟩
      have HPKQ := hid PK
      clear h1 h2 h3 h4 h5 h6 hnd hhn hb hgv2 hgv3 hgv4 hn1 PK HIi
      go_wp2
      go_loopw [16, 15] (fun p q wr => ∃ i : Nat, i ≤ l.length ∧ i ≤ 50 ∧ p = .int .i64 i ∧ q = .int .i64 i ∧ RowKit.Hid (InnI Rp w (.pointer (some ⟨pb, 0, none⟩)) (.slice (some ⟨gv, 0, none⟩) n1 kv) o (1 + i) ls wr)) (fun p _ _ => 50 - (intOf p).toNat)
      case atStart => exact ⟨0, by omega, by omega, rfl, rfl, HIu⟩
      case round =>
        obtain ⟨j, hjl, hj50, rfl, rfl, HIj⟩ := hrel
        clear HIu
        by_cases hgo : j < l.length ∧ j < 50
        · obtain ⟨hg1, hg2⟩ := hgo
          have hx : l[j]? = some (l[j]'hg1) := List.getElem?_eq_getElem hg1
          generalize l[j]'hg1 = z at hx
          obtain ⟨bz, oz, rfl, _⟩ := HL.out.at_ (by omega)
          obtain ⟨S, s, h1, h2, h3, h4, h5, h6⟩ := HIj.out.ex
          have hb := HIj.out.b
          have cz := (HL.out.below hb).rows bz oz rfl j z hx
          have hzn := HL.out.ok z (List.mem_of_getElem? hx)
          obtain ⟨q, u, hq, hqn, hu⟩ := HPKQ.out z hzn
          have HPK := hid (fun W => Pick_any z (n1 : Int) W hzn (by omega) (by omega))
          rw [hq] at HPK
          have cu : wr.cell? ⟨gv, q, none⟩ = some (.int .u64 u) := h1.cell HN1.out hu
          have HU := hid hu
          have H1 := hid h1
          have H2 := hid h2
          have H3 := hid h3
          have H4 := hid h4
          have H5 := hid h5
          have H6 := hid h6
          have HB := hid hb
          clear hx h1 h2 h3 h4 h5 h6 hb hzn hq hu HIj
          go_wp2_with fail
          refine (HPK.out _).mono ?_
          rintro e wp ⟨rfl, hwp⟩
          subst hwp
          go_wp2_with fail
          refine (HCC.out.up S wr _ s u HB.out H3.out (HHN.out u (List.mem_of_getElem? HU.out))).mono ?_
          rintro e w6 ⟨hf, s', nn, er, rfl, hup, hR6⟩
          have hwh := inn_whl (c := 1 + (j : Int)) HND.out ho0 (List.mem_of_getElem? HU.out)
          rw [← H4.out] at hwh
          cases hup with
          | stale hw => rw [hwh] at hw; cases hw
          | top w0 hw hc0 =>
            rw [hwh] at hw; cases hw
            rw [H5.out] at hc0
            simp only at hc0
            omega
          | ok w0 hw hc0 =>
          rw [hwh] at hw; cases hw
          have hb6 : Below w.heap.size w w6 := HB.out.trans (hf.below HB.out.size H2.out)
          have hL6 : setc s.L o (1 + (j : Int) + 1) = inn o (1 + ((j + 1 : Nat) : Int)) ls := by
            rw [H4.out, inn_setc HND.out]
            rw [show (1 + (j : Int) + 1) = 1 + ((j + 1 : Nat) : Int) by omega]
          have HI6 := hid (show InnI Rp w (.pointer (some ⟨pb, 0, none⟩)) (.slice (some ⟨gv, 0, none⟩) n1 kv) o (1 + ((j + 1 : Nat) : Int)) ls w6 from ⟨⟨_, _, H1.out.fr hf, exS_ge H2.out HB.out.size, hR6, hL6, H5.out, H6.out⟩, hb6⟩)
          have d5 : (1 + (j : Int) + 1 != 1 + ((j : Int) + 1)) = false := by simp; omega
          clear hf hR6 hwh hc0 hb6 hL6 H1 H2 H3 H4 H5 H6 HB HU cu cz HPK
          go_wp2
          go_roundw
          case rel => exact ⟨j + 1, by omega, by omega, by go_num, by go_num, HI6⟩
          case measure => simp [intOf]; omega
        · have hjl2 := hjl
          by_cases hjl3 : j < l.length
          · have hj2 : ¬ j < 50 := fun h => hgo ⟨hjl3, h⟩
            clear hgo
            have HIs := hid (show InnI Rp w (.pointer (some ⟨pb, 0, none⟩)) (.slice (some ⟨gv, 0, none⟩) n1 kv) o (1 + (j : Int) - ((0 : Nat) : Int)) ls wr by rw [show (1 + (j : Int) - ((0 : Nat) : Int)) = 1 + (j : Int) by omega]; exact HIj.out)
            clear HIj
            go_wp2
            go_loopw [19] (fun p wr => ∃ t : Nat, t ≤ j ∧ p = .int .i64 t ∧ RowKit.Hid (InnI Rp w (.pointer (some ⟨pb, 0, none⟩)) (.slice (some ⟨gv, 0, none⟩) n1 kv) o (1 + (j : Int) - (t : Int)) ls wr)) (fun p _ => j - (intOf p).toNat)
            case atStart => exact ⟨0, by omega, rfl, HIs⟩
            case round =>
              obtain ⟨t, htj, rfl, HIt⟩ := hrel
              clear HIs
              by_cases hlt : t < j
              · have hx : l[j - 1 - t]? = some (l[j - 1 - t]'(by omega)) := List.getElem?_eq_getElem (by omega)
                generalize l[j - 1 - t]'(by omega) = z at hx
                obtain ⟨bz, oz, rfl, _⟩ := HL.out.at_ (by omega)
                obtain ⟨S, s, h1, h2, h3, h4, h5, h6⟩ := HIt.out.ex
                have hb := HIt.out.b
                have cz := (HL.out.below hb).rows bz oz rfl (j - 1 - t) z hx
                have hzn := HL.out.ok z (List.mem_of_getElem? hx)
                obtain ⟨q, u, hq, hqn, hu⟩ := HPKQ.out z hzn
                have HPK := hid (fun W => Pick_any z (n1 : Int) W hzn (by omega) (by omega))
                rw [hq] at HPK
                have cu : wr.cell? ⟨gv, q, none⟩ = some (.int .u64 u) := h1.cell HN1.out hu
                obtain ⟨ix, hix⟩ : ∃ ix : Nat, ix = j - 1 - t := ⟨_, rfl⟩
                rw [← hix] at cz
                have w1x : IntKind.i64.wrap ((j : Int) - 1) = ((j - 1 : Nat) : Int) := by rw [IntWalk.i64_in _ (by omega)]; omega
                have w2x : IntKind.i64.wrap (((j - 1 : Nat) : Int) - (t : Int)) = (ix : Int) := by rw [IntWalk.i64_in _ (by omega)]; omega
                have hixl : ix < l.length := by omega
                have HU := hid hu
                have H1 := hid h1
                have H2 := hid h2
                have H3 := hid h3
                have H4 := hid h4
                have H5 := hid h5
                have H6 := hid h6
                have HB := hid hb
                clear hx h1 h2 h3 h4 h5 h6 hb hzn hq hu HIt hix
                go_wp2_with fail
                refine (HPK.out _).mono ?_
                rintro e wp ⟨rfl, hwp⟩
                subst hwp
                go_wp2_with fail
                refine (HCC.out.dn S wr _ s u HB.out H3.out (HHN.out u (List.mem_of_getElem? HU.out))).mono ?_
                rintro e w6 ⟨hf, s', g, f, er, vg, vf, rfl, htg, htf, hdr, hR6⟩
                cases hdr with
                | stale hf0 =>
                  have hm : u ∈ s.L.map (·.h) := by rw [H4.out, inn_h]; exact List.mem_of_getElem? HU.out
                  obtain ⟨ob, ho, e⟩ := List.mem_map.1 hm
                  exact absurd e (fnd_none.1 hf0 ob ho)
                | @ok ob hfo L' A' g f hdn hdr =>
                  rw [H4.out] at hdn
                  obtain ⟨rfl, rfl, rfl⟩ := dn_inn HND.out ho0 (List.mem_of_getElem? HU.out) (by omega) (by omega) hdn
                  have hA' : A' = s.A := by cases hdr; rfl
                  subst hA'
                  obtain ⟨ag, cg, hvg, _⟩ := htg.ex
                  obtain ⟨af, cf, hvf, _⟩ := htf.ex
                  subst hvg hvf
                  have hb6 : Below w.heap.size w w6 := HB.out.trans (hf.below HB.out.size H2.out)
                  have HI6 := hid (show InnI Rp w (.pointer (some ⟨pb, 0, none⟩)) (.slice (some ⟨gv, 0, none⟩) n1 kv) o (1 + (j : Int) - ((t + 1 : Nat) : Int)) ls w6 from ⟨⟨_, _, H1.out.fr hf, exS_ge H2.out HB.out.size, hR6, by rw [show (1 + (j : Int) - ((t + 1 : Nat) : Int)) = 1 + (j : Int) - (t : Int) - 1 by omega], H5.out, H6.out⟩, hb6⟩)
                  clear hf hR6 hdn hdr hfo hb6 htg htf H1 H2 H3 H4 H5 H6 HB HU cu cz HPK w1x w2x
                  go_wp2
                  go_roundw
                  case rel => exact ⟨t + 1, by omega, by go_num, HI6⟩
                  case measure => simp [intOf]; omega
              · obtain rfl : t = j := by omega
                obtain ⟨S, s, h1, h2, h3, h4, h5, h6⟩ := HIt.out.ex
                have hb := HIt.out.b
                rw [show (1 + (t : Int) - (t : Int)) = 1 by omega] at h4
                have hu : (o :: ls)[n1 - 1]? = some ((o :: ls)[n1 - 1]'(by have := HN1.out; omega)) := List.getElem?_eq_getElem _
                generalize (o :: ls)[n1 - 1]'(by have := HN1.out; omega) = u at hu
                have cu : wr.cell? ⟨gv, n1 - 1, none⟩ = some (.int .u64 u) := h1.cell HN1.out hu
                have w1x : IntKind.i64.wrap ((n1 : Int) - 1) = ((n1 - 1 : Nat) : Int) := by rw [IntWalk.i64_in _ (by omega)]; omega
                have HU := hid hu
                have H1 := hid h1
                have H2 := hid h2
                have H3 := hid h3
                have H4 := hid h4
                have HB := hid hb
                clear h1 h2 h3 h4 h5 h6 hb hu HIt
                go_wp2_with fail
                refine (HCC.out.dn S wr _ s u HB.out H3.out (HHN.out u (List.mem_of_getElem? HU.out))).mono ?_
                rintro e w6 ⟨hf, s', g, f, er, vg, vf, rfl, htg, htf, hdr, hR6⟩
                cases hdr with
                | stale hf0 =>
                  have hm : u ∈ s.L.map (·.h) := by rw [H4.out, inn_h]; exact List.mem_of_getElem? HU.out
                  obtain ⟨ob, ho, e⟩ := List.mem_map.1 hm
                  exact absurd e (fnd_none.1 hf0 ob ho)
                | @ok ob hfo L' A' g f hdn hdr =>
                  rw [H4.out] at hdn
                  obtain ⟨rfl, rfl, rfl⟩ := dn_inn_last HND.out ho0 (List.mem_of_getElem? HU.out) hdn
                  have hr6 := H1.out.fr hf
                  have htl : Told TU u64v w6 (.slice (some ⟨gv, 0, none⟩) n1 kv) (o :: ls) := hr6.told
                  have hal := allA_nil (HCC.out.ok hR6) rfl
                  have hb6 : Below w.heap.size w w6 := HB.out.trans (hf.below HB.out.size H2.out)
                  have HSL := hid (SameLongs_told w6 vg _ (o :: ls) htg htl)
                  obtain ⟨ag, cg, hvg, _⟩ := htg.ex
                  obtain ⟨af, cf, hvf, _⟩ := htf.ex
                  rw [← HN1.out] at hvg
                  subst hvg hvf
                  have HAL := hid (fun (W : World) (hb : Below w6.heap.size w6 W) => HCC.out.all _ W _ _ 9 (hb6.trans (hb.mono hb6.size)) (HCC.out.keep hR6 (fun b hb' => hb.block b (HCC.out.lt hR6 b hb')) hb.size) (by omega))
                  rw [hal] at HAL
                  have HB6 := hid hb6
                  clear hf hR6 hdn hdr hfo hr6 htl hal hb6 htg htf H1 H2 H3 H4 HB HU cu w1x
                  go_wp2_with fail
                  refine HSL.out.mono ?_
                  rintro e w7 ⟨rfl, hb7⟩
                  have HB7 := hid hb7
                  have HW7 := hid (HB6.out.trans (hb7.mono HB6.out.size))
                  clear hb7 HSL
                  go_wp2_with fail
                  refine (HAL.out w7 HB7.out).mono ?_
                  rintro e w8 ⟨hb8, v8, rfl, ht8⟩
                  obtain ⟨a8, c8, hv8, _⟩ := ht8.ex
                  subst hv8
                  have HB8 := hid (HW7.out.trans (hb8.mono HW7.out.size))
                  clear hb8 HAL ht8
                  go_wp2_with fail
                  refine (HCC.out.awk w8 HB8.out).mono ?_
                  rintro e w9 ⟨hb9, rfl⟩
                  have HB9 := hid (HB8.out.trans (hb9.mono HB8.out.size))
                  clear hb9
                  go_wp2
                  go_ret
                  exact ⟨rfl, HB9.out⟩
          · clear hgo
            have HIs := hid (show InnI Rp w (.pointer (some ⟨pb, 0, none⟩)) (.slice (some ⟨gv, 0, none⟩) n1 kv) o (1 + (j : Int) - ((0 : Nat) : Int)) ls wr by rw [show (1 + (j : Int) - ((0 : Nat) : Int)) = 1 + (j : Int) by omega]; exact HIj.out)
            clear HIj
            go_wp2
            go_loopw [19] (fun p wr => ∃ t : Nat, t ≤ j ∧ p = .int .i64 t ∧ RowKit.Hid (InnI Rp w (.pointer (some ⟨pb, 0, none⟩)) (.slice (some ⟨gv, 0, none⟩) n1 kv) o (1 + (j : Int) - (t : Int)) ls wr)) (fun p _ => j - (intOf p).toNat)
            case atStart => exact ⟨0, by omega, rfl, HIs⟩
            case round =>
              obtain ⟨t, htj, rfl, HIt⟩ := hrel
              clear HIs
              by_cases hlt : t < j
              · have hx : l[j - 1 - t]? = some (l[j - 1 - t]'(by omega)) := List.getElem?_eq_getElem (by omega)
                generalize l[j - 1 - t]'(by omega) = z at hx
                obtain ⟨bz, oz, rfl, _⟩ := HL.out.at_ (by omega)
                obtain ⟨S, s, h1, h2, h3, h4, h5, h6⟩ := HIt.out.ex
                have hb := HIt.out.b
                have cz := (HL.out.below hb).rows bz oz rfl (j - 1 - t) z hx
                have hzn := HL.out.ok z (List.mem_of_getElem? hx)
                obtain ⟨q, u, hq, hqn, hu⟩ := HPKQ.out z hzn
                have HPK := hid (fun W => Pick_any z (n1 : Int) W hzn (by omega) (by omega))
                rw [hq] at HPK
                have cu : wr.cell? ⟨gv, q, none⟩ = some (.int .u64 u) := h1.cell HN1.out hu
                obtain ⟨ix, hix⟩ : ∃ ix : Nat, ix = j - 1 - t := ⟨_, rfl⟩
                rw [← hix] at cz
                have w1x : IntKind.i64.wrap ((j : Int) - 1) = ((j - 1 : Nat) : Int) := by rw [IntWalk.i64_in _ (by omega)]; omega
                have w2x : IntKind.i64.wrap (((j - 1 : Nat) : Int) - (t : Int)) = (ix : Int) := by rw [IntWalk.i64_in _ (by omega)]; omega
                have hixl : ix < l.length := by omega
                have HU := hid hu
                have H1 := hid h1
                have H2 := hid h2
                have H3 := hid h3
                have H4 := hid h4
                have H5 := hid h5
                have H6 := hid h6
                have HB := hid hb
                clear hx h1 h2 h3 h4 h5 h6 hb hzn hq hu HIt hix
                go_wp2_with fail
                refine (HPK.out _).mono ?_
                rintro e wp ⟨rfl, hwp⟩
                subst hwp
                go_wp2_with fail
                refine (HCC.out.dn S wr _ s u HB.out H3.out (HHN.out u (List.mem_of_getElem? HU.out))).mono ?_
                rintro e w6 ⟨hf, s', g, f, er, vg, vf, rfl, htg, htf, hdr, hR6⟩
                cases hdr with
                | stale hf0 =>
                  have hm : u ∈ s.L.map (·.h) := by rw [H4.out, inn_h]; exact List.mem_of_getElem? HU.out
                  obtain ⟨ob, ho, e⟩ := List.mem_map.1 hm
                  exact absurd e (fnd_none.1 hf0 ob ho)
                | @ok ob hfo L' A' g f hdn hdr =>
                  rw [H4.out] at hdn
                  obtain ⟨rfl, rfl, rfl⟩ := dn_inn HND.out ho0 (List.mem_of_getElem? HU.out) (by omega) (by omega) hdn
                  have hA' : A' = s.A := by cases hdr; rfl
                  subst hA'
                  obtain ⟨ag, cg, hvg, _⟩ := htg.ex
                  obtain ⟨af, cf, hvf, _⟩ := htf.ex
                  subst hvg hvf
                  have hb6 : Below w.heap.size w w6 := HB.out.trans (hf.below HB.out.size H2.out)
                  have HI6 := hid (show InnI Rp w (.pointer (some ⟨pb, 0, none⟩)) (.slice (some ⟨gv, 0, none⟩) n1 kv) o (1 + (j : Int) - ((t + 1 : Nat) : Int)) ls w6 from ⟨⟨_, _, H1.out.fr hf, exS_ge H2.out HB.out.size, hR6, by rw [show (1 + (j : Int) - ((t + 1 : Nat) : Int)) = 1 + (j : Int) - (t : Int) - 1 by omega], H5.out, H6.out⟩, hb6⟩)
                  clear hf hR6 hdn hdr hfo hb6 htg htf H1 H2 H3 H4 H5 H6 HB HU cu cz HPK w1x w2x
                  go_wp2
                  go_roundw
                  case rel => exact ⟨t + 1, by omega, by go_num, HI6⟩
                  case measure => simp [intOf]; omega
              · obtain rfl : t = j := by omega
                obtain ⟨S, s, h1, h2, h3, h4, h5, h6⟩ := HIt.out.ex
                have hb := HIt.out.b
                rw [show (1 + (t : Int) - (t : Int)) = 1 by omega] at h4
                have hu : (o :: ls)[n1 - 1]? = some ((o :: ls)[n1 - 1]'(by have := HN1.out; omega)) := List.getElem?_eq_getElem _
                generalize (o :: ls)[n1 - 1]'(by have := HN1.out; omega) = u at hu
                have cu : wr.cell? ⟨gv, n1 - 1, none⟩ = some (.int .u64 u) := h1.cell HN1.out hu
                have w1x : IntKind.i64.wrap ((n1 : Int) - 1) = ((n1 - 1 : Nat) : Int) := by rw [IntWalk.i64_in _ (by omega)]; omega
                have HU := hid hu
                have H1 := hid h1
                have H2 := hid h2
                have H3 := hid h3
                have H4 := hid h4
                have HB := hid hb
                clear h1 h2 h3 h4 h5 h6 hb hu HIt
                go_wp2_with fail
                refine (HCC.out.dn S wr _ s u HB.out H3.out (HHN.out u (List.mem_of_getElem? HU.out))).mono ?_
                rintro e w6 ⟨hf, s', g, f, er, vg, vf, rfl, htg, htf, hdr, hR6⟩
                cases hdr with
                | stale hf0 =>
                  have hm : u ∈ s.L.map (·.h) := by rw [H4.out, inn_h]; exact List.mem_of_getElem? HU.out
                  obtain ⟨ob, ho, e⟩ := List.mem_map.1 hm
                  exact absurd e (fnd_none.1 hf0 ob ho)
                | @ok ob hfo L' A' g f hdn hdr =>
                  rw [H4.out] at hdn
                  obtain ⟨rfl, rfl, rfl⟩ := dn_inn_last HND.out ho0 (List.mem_of_getElem? HU.out) hdn
                  have hr6 := H1.out.fr hf
                  have htl : Told TU u64v w6 (.slice (some ⟨gv, 0, none⟩) n1 kv) (o :: ls) := hr6.told
                  have hal := allA_nil (HCC.out.ok hR6) rfl
                  have hb6 : Below w.heap.size w w6 := HB.out.trans (hf.below HB.out.size H2.out)
                  have HSL := hid (SameLongs_told w6 vg _ (o :: ls) htg htl)
                  obtain ⟨ag, cg, hvg, _⟩ := htg.ex
                  obtain ⟨af, cf, hvf, _⟩ := htf.ex
                  rw [← HN1.out] at hvg
                  subst hvg hvf
                  have HAL := hid (fun (W : World) (hb : Below w6.heap.size w6 W) => HCC.out.all _ W _ _ 9 (hb6.trans (hb.mono hb6.size)) (HCC.out.keep hR6 (fun b hb' => hb.block b (HCC.out.lt hR6 b hb')) hb.size) (by omega))
                  rw [hal] at HAL
                  have HB6 := hid hb6
                  clear hf hR6 hdn hdr hfo hr6 htl hal hb6 htg htf H1 H2 H3 H4 HB HU cu w1x
                  go_wp2_with fail
                  refine HSL.out.mono ?_
                  rintro e w7 ⟨rfl, hb7⟩
                  have HB7 := hid hb7
                  have HW7 := hid (HB6.out.trans (hb7.mono HB6.out.size))
                  clear hb7 HSL
                  go_wp2_with fail
                  refine (HAL.out w7 HB7.out).mono ?_
                  rintro e w8 ⟨hb8, v8, rfl, ht8⟩
                  obtain ⟨a8, c8, hv8, _⟩ := ht8.ex
                  subst hv8
                  have HB8 := hid (HW7.out.trans (hb8.mono HW7.out.size))
                  clear hb8 HAL ht8
                  go_wp2_with fail
                  refine (HCC.out.awk w8 HB8.out).mono ?_
                  rintro e w9 ⟨hb9, rfl⟩
                  have HB9 := hid (HB8.out.trans (hb9.mono HB8.out.size))
                  clear hb9
                  go_wp2
                  go_ret
                  exact ⟨rfl, HB9.out⟩
end Go.Proofs.Ytmkajdfajcodjaa
