/-
  The laws of layer 11: HeapForeign.
-/
import Derived.Test.YtmkajdfajcodjaaHpA
import Derived.Test.YtmkajdfajcodjaaMixD
import Derived.Test.YtmkajdfajcodjaaPick
import Derived.Deep.Cut
namespace Go.Proofs.Ytmkajdfajcodjaa
open Go Go.ChangeShapes Go.WideShapes Go.ChangeAt Go.RowKit

theorem nd_iff {l : List Int} : l.Nodup ↔ ∀ (i j : Nat) x, l[i]? = some x → l[j]? = some x → i = j := by
  unfold List.Nodup
  rw [List.pairwise_iff_getElem]
  constructor
  · intro h i j x hi hj
    obtain ⟨hi1, hi2⟩ := List.getElem?_eq_some_iff.1 hi
    obtain ⟨hj1, hj2⟩ := List.getElem?_eq_some_iff.1 hj
    rcases Nat.lt_trichotomy i j with h1 | h1 | h1
    · exact absurd (hi2.trans hj2.symm) (h i j hi1 hj1 h1)
    · exact h1
    · exact absurd (hj2.trans hi2.symm) (h j i hj1 hi1 h1)
  · intro h i j hi hj hij e
    have := h i j l[i] (List.getElem?_eq_getElem hi) (by rw [e]; exact List.getElem?_eq_getElem hj)
    omega
/-- The last one is laid into the place of the one that goes. -/
def swp (l : List Int) (k : Nat) (z : Int) : List Int := (l.set k z).take (l.length - 1)
theorem swp_at {l : List Int} {k : Nat} {z : Int} {i : Nat} {x : Int} (hk : k < l.length) : (swp l k z)[i]? = some x ↔ i < l.length - 1 ∧ ((i = k ∧ x = z) ∨ (i ≠ k ∧ l[i]? = some x)) := by
  unfold swp
  rw [List.getElem?_take]
  by_cases h1 : i < l.length - 1
  · rw [if_pos h1, List.getElem?_set]
    by_cases h2 : k = i
    · subst h2
      simp [h1, hk, eq_comm]
    · rw [if_neg h2]
      constructor
      · intro h; exact ⟨h1, .inr ⟨fun e => h2 e.symm, h⟩⟩
      · rintro ⟨_, ⟨e, _⟩ | ⟨_, h⟩⟩
        · exact absurd e.symm h2
        · exact h
  · rw [if_neg h1]
    constructor
    · intro h; cases h
    · rintro ⟨h, _⟩; exact absurd h h1
theorem swp_nd {l : List Int} (hn : l.Nodup) {k : Nat} {z : Int} (hk : k < l.length) (hz : l[l.length - 1]? = some z) : (swp l k z).Nodup := by
  rw [nd_iff] at hn ⊢
  intro i j x hi hj
  obtain ⟨h1, h2⟩ := (swp_at hk).1 hi
  obtain ⟨h3, h4⟩ := (swp_at hk).1 hj
  rcases h2 with ⟨e, rfl⟩ | ⟨e, h2⟩
  · rcases h4 with ⟨e2, _⟩ | ⟨e2, h4⟩
    · omega
    · have := hn _ _ _ h4 hz; omega
  · rcases h4 with ⟨e2, rfl⟩ | ⟨e2, h4⟩
    · have := hn _ _ _ h2 hz; omega
    · exact hn _ _ _ h2 h4
theorem swp_mem {l : List Int} (hn : l.Nodup) {k : Nat} {y z : Int} (hy : l[k]? = some y) (hz : l[l.length - 1]? = some z) (x : Int) : x ∈ swp l k z ↔ x ∈ l ∧ x ≠ y := by
  have hk := (List.getElem?_eq_some_iff.1 hy).1
  rw [List.mem_iff_getElem?]
  rw [nd_iff] at hn
  constructor
  · rintro ⟨i, hi⟩
    obtain ⟨h1, h2⟩ := (swp_at hk).1 hi
    rcases h2 with ⟨e, rfl⟩ | ⟨e, h2⟩
    · refine ⟨List.mem_of_getElem? hz, fun e2 => ?_⟩
      subst e2
      have := hn _ _ _ hy hz; omega
    · refine ⟨List.mem_of_getElem? h2, fun e2 => ?_⟩
      subst e2
      exact e (hn _ _ _ h2 hy)
  · rintro ⟨h1, h2⟩
    obtain ⟨i, hi⟩ := List.mem_iff_getElem?.1 h1
    have hik : i ≠ k := fun e => by subst e; rw [hy] at hi; cases hi; exact h2 rfl
    have hil := (List.getElem?_eq_some_iff.1 hi).1
    by_cases hl : i = l.length - 1
    · subst hl
      rw [hz] at hi; cases hi
      exact ⟨k, (swp_at hk).2 ⟨by omega, .inl ⟨rfl, rfl⟩⟩⟩
    · exact ⟨i, (swp_at hk).2 ⟨by omega, .inr ⟨hik, hi⟩⟩⟩
/-- Between two acts: who lives, what was laid, what was told. -/
structure ForL (L : HL) (live : List Int) (laid told : Int) : Prop where
  ok : ForOk L
  ln : ∀ o ∈ L, o.links.length = 3 ∧ ∀ l ∈ o.links, l.kind = 2 → 0 ≤ l.h ∧ l.h ≤ laid
  nd : live.Nodup
  mem : ∀ h, h ∈ live ↔ ∃ o ∈ L, o.h = h
  tot : told + ftot L = laid
theorem ftot_app (L M : HL) : ftot (L ++ M) = ftot L + ftot M := by simp [ftot]
theorem ForL.make {L : HL} {live : List Int} {laid told x : Int} (h : ForL L live laid told) (hn : Nd (L ++ [newOb x 0 3])) : ForL (L ++ [newOb x 0 3]) (live ++ [x]) laid told := by
  have hn' := hn
  unfold Nd at hn'
  rw [List.map_append, List.nodup_append] at hn'
  refine ⟨⟨hn, fun o ho => ?_⟩, fun o ho => ?_, ?_, fun y => ?_, ?_⟩
  · rcases List.mem_append.1 ho with ho | ho
    · exact h.ok.all o ho
    · rw [List.mem_singleton.1 ho]
      exact ⟨rfl, rfl, rfl, fun l hl => .inl (by rw [List.eq_of_mem_replicate hl])⟩
  · rcases List.mem_append.1 ho with ho | ho
    · exact h.ln o ho
    · rw [List.mem_singleton.1 ho]
      exact ⟨rfl, fun l hl h2 => by rw [List.eq_of_mem_replicate hl] at h2; simp at h2⟩
  · rw [List.nodup_append]
    refine ⟨h.nd, by simp, fun a ha b hb e => ?_⟩
    obtain ⟨o, ho, rfl⟩ := (h.mem a).1 ha
    exact hn'.2.2 o.h (List.mem_map.2 ⟨o, ho, rfl⟩) b (by simpa [newOb] using hb) e
  · constructor
    · intro hy
      rcases List.mem_append.1 hy with hy | hy
      · obtain ⟨o, ho, e⟩ := (h.mem y).1 hy
        exact ⟨o, List.mem_append.2 (.inl ho), e⟩
      · exact ⟨_, List.mem_append.2 (.inr (List.mem_singleton.2 rfl)), (List.mem_singleton.1 hy).symm⟩
    · rintro ⟨o, ho, e⟩
      rcases List.mem_append.1 ho with ho | ho
      · exact List.mem_append.2 (.inl ((h.mem y).2 ⟨o, ho, e⟩))
      · rw [List.mem_singleton.1 ho] at e
        exact List.mem_append.2 (.inr (List.mem_singleton.2 e.symm))
  · have h0 : ftot [newOb x 0 3] = 0 := rfl
    rw [ftot_app, h0]
    exact h.tot
theorem ForL.down {L L' : HL} {live g f : List Int} {laid told y z : Int} {k : Nat} (h : ForL L live laid told) (hy : live[k]? = some y) (hz : live[live.length - 1]? = some z) (hd : Dn L y L' g f) : ForL L' (swp live k z) laid (told + (f.length : Int)) := by
  obtain ⟨o, ho, rfl⟩ := (h.mem y).1 (List.mem_of_getElem? hy)
  obtain ⟨rfl, rfl, rfl⟩ := dn_for h.ok ho hd
  refine ⟨h.ok.drop _, fun p hp => h.ln p (List.mem_filter.1 hp).1, swp_nd h.nd (List.getElem?_eq_some_iff.1 hy).1 hz, fun x => ?_, ?_⟩
  · rw [swp_mem h.nd hy hz, h.mem]
    constructor
    · rintro ⟨⟨p, hp, rfl⟩, h2⟩
      exact ⟨p, List.mem_filter.2 ⟨hp, by simpa using h2⟩, rfl⟩
    · rintro ⟨p, hp, rfl⟩
      obtain ⟨h1, h2⟩ := List.mem_filter.1 hp
      exact ⟨⟨p, h1, rfl⟩, by simpa using h2⟩
  · have := ftot_drop h.ok.nd ho
    have := h.tot
    omega
theorem fors_set {l : List Lk} {i : Nat} {old x : Lk} (h : l[i]? = some old) (hx : x.kind = 2) : (fors (l.set i x)).length + (fors [old]).length = (fors l).length + 1 := by
  induction l generalizing i with
  | nil => simp at h
  | cons a l ih =>
    cases i with
    | zero =>
      simp at h
      subst h
      by_cases ha : a.kind = 2
      · simp [fors, ha, hx]
      · simp [fors, ha, hx]
    | succ i =>
      have := ih (i := i) (by simpa using h)
      rw [List.set_cons_succ]
      by_cases ha : a.kind = 2
      · simp only [fors, List.filter_cons, ha, beq_self_eq_true, if_true, List.map_cons, List.length_cons] at this ⊢
        omega
      · have hb : (a.kind == 2) = false := by simpa using ha
        simp only [fors, List.filter_cons, hb, Bool.false_eq_true, if_false] at this ⊢
        omega
theorem ftot_setl {L : HL} (hn : Nd L) {o : Ob} (ho : o ∈ L) {i : Nat} {old x : Lk} (hs : o.links[i]? = some old) (hx : x.kind = 2) : ftot (setl L o.h i x) + (fors [old]).length = ftot L + 1 := by
  induction L with
  | nil => cases ho
  | cons a L ih =>
    have hn' : (a.h :: L.map (·.h)).Nodup := hn
    rw [List.nodup_cons] at hn'
    have he : setl (a :: L) o.h i x = (if a.h = o.h then { a with links := a.links.set i x } else a) :: setl L o.h i x := rfl
    rw [he]
    rcases List.mem_cons.1 ho with rfl | ho
    · have h1 : setl L o.h i x = L := by
        unfold setl
        refine (List.map_congr_left fun p hp => ?_).trans (List.map_id _)
        have : p.h ≠ o.h := fun e => hn'.1 (e ▸ List.mem_map.2 ⟨p, hp, rfl⟩)
        simp [this]
      rw [h1, if_pos rfl]
      have := fors_set hs hx
      simp only [ftot, List.map_cons, List.sum_cons]
      omega
    · have : a.h ≠ o.h := fun e => hn'.1 (e ▸ List.mem_map.2 ⟨o, ho, rfl⟩)
      rw [if_neg this]
      have := ih hn'.2 ho
      simp only [ftot, List.map_cons, List.sum_cons] at this ⊢
      omega
theorem ForL.put {L L' : HL} {live g f : List Int} {laid told y : Int} {o : Ob} {i : Nat} {old : Lk} (h : ForL L live laid told) (hl : 0 ≤ laid) (ho : o ∈ L) (hy : y = o.h) (hs : o.links[i]? = some old) (hp : Pu L y i ⟨2, laid + 1⟩ old L' g f) : ForL L' live (laid + 1) (told + (f.length : Int)) ∧ f.length ≤ 1 ∧ ∀ z ∈ f, z ≤ laid := by
  subst hy
  have hok := (h.ok.all o ho).2.2.2 old (List.mem_of_getElem? hs)
  obtain ⟨rfl, rfl, rfl⟩ := pu_for (by rcases hok with e | e <;> omega) hp
  have hf := ftot_setl (x := ⟨2, laid + 1⟩) h.ok.nd ho hs rfl
  refine ⟨⟨⟨by unfold Nd; rw [setl_h]; exact h.ok.nd, fun p hp => ?_⟩, fun p hp => ?_, h.nd, fun x => ?_, ?_⟩, ?_, fun z hz => ?_⟩
  · obtain ⟨p0, hp0, rfl⟩ := mem_setl.1 hp
    have := h.ok.all p0 hp0
    split
    · refine ⟨this.1, this.2.1, this.2.2.1, fun l hl => ?_⟩
      rcases List.mem_or_eq_of_mem_set hl with hl | rfl
      · exact this.2.2.2 l hl
      · exact .inr rfl
    · exact this
  · obtain ⟨p0, hp0, rfl⟩ := mem_setl.1 hp
    have := h.ln p0 hp0
    split
    · refine ⟨by rw [List.length_set]; exact this.1, fun l hl h2 => ?_⟩
      rcases List.mem_or_eq_of_mem_set hl with hl | rfl
      · have := this.2 l hl h2; omega
      · simp only; omega
    · refine ⟨this.1, fun l hl h2 => ?_⟩
      have := this.2 l hl h2; omega
  · rw [h.mem]
    constructor
    · rintro ⟨p, hp, rfl⟩
      refine ⟨_, mem_setl.2 ⟨p, hp, rfl⟩, ?_⟩
      split <;> rfl
    · rintro ⟨p, hp, rfl⟩
      obtain ⟨p0, hp0, rfl⟩ := mem_setl.1 hp
      refine ⟨p0, hp0, ?_⟩
      split <;> rfl
  · have := h.tot
    omega
  · unfold fors
    rw [List.length_map]
    exact List.length_filter_le _ _
  · simp only [fors, List.mem_map, List.mem_filter, List.mem_singleton] at hz
    obtain ⟨l, ⟨rfl, h2⟩, rfl⟩ := hz
    exact ((h.ln o ho).2 l (List.mem_of_getElem? hs) (by simpa using h2)).2
/-- Between two acts. -/
structure ForI (Rp : (Nat → Prop) → World → Value → Hs → Prop) (w : World) (i : Nat) (p v5 : Value) (laid told : Int) (wr : World) : Prop where
  ex : ∃ S s live, RowS TU u64v S w.heap.size wr v5 live ∧ (∀ b, S b → w.heap.size ≤ b) ∧ Rp S wr p s ∧ ForL s.L live laid told ∧ live.length ≤ i
  b : Below w.heap.size w wr
  t0 : 0 ≤ told ∧ 0 ≤ laid
  li : laid ≤ i
theorem ForL.first {L L' : HL} {live g f : List Int} {laid told y : Int} (h : ForL L live laid told) (hy : live[0]? = some y) (hd : Dn L y L' g f) : ForL L' (live.drop 1) laid (told + (f.length : Int)) := by
  cases live with
  | nil => simp at hy
  | cons a live =>
    simp at hy
    subst hy
    have hn := List.nodup_cons.1 h.nd
    obtain ⟨o, ho, e⟩ := (h.mem a).1 (by simp)
    subst e
    obtain ⟨rfl, rfl, rfl⟩ := dn_for h.ok ho hd
    refine ⟨h.ok.drop _, fun p hp => h.ln p (List.mem_filter.1 hp).1, hn.2, fun x => ?_, ?_⟩
    · constructor
      · intro hx
        obtain ⟨p, hp, rfl⟩ := (h.mem x).1 (by simp at hx; simp [hx])
        refine ⟨p, List.mem_filter.2 ⟨hp, ?_⟩, rfl⟩
        have : p.h ≠ o.h := fun e => hn.1 (e ▸ by simpa using hx)
        simpa using this
      · rintro ⟨p, hp, rfl⟩
        obtain ⟨h1, h2⟩ := List.mem_filter.1 hp
        have := (h.mem p.h).2 ⟨p, h1, rfl⟩
        rcases List.mem_cons.1 this with e | e
        · simp [e] at h2
        · simpa using e
    · have := ftot_drop h.ok.nd ho
      have := h.tot
      omega
/-- All that live are let go of, one by one. -/
structure EndI (Rp : (Nat → Prop) → World → Value → Hs → Prop) (w : World) (j : Nat) (p v5 : Value) (live : List Int) (laid told : Int) (wr : World) : Prop where
  ex : ∃ S s, RowS TU u64v S w.heap.size wr v5 live ∧ (∀ b, S b → w.heap.size ≤ b) ∧ Rp S wr p s ∧ ForL s.L (live.drop j) laid told
  b : Below w.heap.size w wr
  t0 : 0 ≤ told ∧ 0 ≤ laid
theorem exS_ge {S : Nat → Prop} {w w' : World} {B : Nat} (hS : ∀ b, S b → B ≤ b) (hB : B ≤ w.heap.size) : ∀ b, exS S w w' b → B ≤ b := fun b hb => by
  rcases hb with h | h
  · exact hS b h
  · omega
set_option maxRecDepth 100000 in
set_option maxHeartbeats 8000000 in
theorem HeapForeign_any (w : World) (Rp : (Nat → Prop) → World → Value → Hs → Prop) (HC : HeapC w Rp) (ad : Option Addr) (c : Nat) (l : List HAct) (hl : RwH w w.heap.size ad l) (hll : l.length ≤ 9223372036854775807) :
    Calls Try.prog 9 #[.slice ad l.length c] w fun e w' => e = .returned (.bool true) ∧ Below w.heap.size w w' := by
  have HCC := hid HC
  have HL := hid hl
  have hnew := HC.new 100 9 w (Below.refl _ _) (by simp [Nm]) (by simp [U32])
  have HN := hid hnew
  obtain ⟨i0, hi, hz0, hz1, hz2⟩ := info_parts infoU
  have hi' := hid hi
  have hz0' := hid hz0
  have hz1' := hid hz1
  have hz2' := hid hz2
  clear HC hl hnew hi hz0 hz1 hz2
  go_enter Try.func9, Try.ntmps9
  go_wp2_with fail
  refine HN.out.mono ?_
  rintro e w1 ⟨hb1, hx⟩
  rw [if_pos (by omega)] at hx
  obtain ⟨p, S, rfl, hS, hR⟩ := hx
  obtain ⟨pb, rfl⟩ := HCC.out.ptr hR
  have HI := hid (show ForI Rp w 0 (.pointer (some ⟨pb, 0, none⟩)) (.slice none 0 0) 0 0 w1 from ⟨⟨S, _, [], RowS.nil _ _ _ _ _, hS, hR, ⟨⟨by simp [Nd], fun o ho => by cases ho⟩, fun o ho => (by cases ho), by simp, fun h => by simp, rfl⟩, Nat.le_refl _⟩, hb1, ⟨by omega, by omega⟩, by omega⟩)
  clear hb1 hS hR HN
  go_wp2
  go_loopw [8, 5, 6, 7] (fun i5 v5 la to wr => ∃ (i : Nat) (laid told : Int), i ≤ l.length ∧ i ≤ 60 ∧ i5 = .int .i64 i ∧ la = .int .u64 laid ∧ to = .int .u64 told ∧ RowKit.Hid (ForI Rp w i (.pointer (some ⟨pb, 0, none⟩)) v5 laid told wr)) (fun i5 _ _ _ _ => 60 - (intOf i5).toNat)
  case atStart => exact ⟨0, 0, 0, by omega, by omega, rfl, rfl, rfl, HI⟩
  case round =>
    obtain ⟨i, laid, told, hil, hi60, rfl, rfl, rfl, HIi⟩ := hrel
    clear HI
    by_cases hgo : i < l.length ∧ i < 60
    · obtain ⟨hg1, hg2⟩ := hgo
      have hx : l[i]? = some (l[i]'hg1) := List.getElem?_eq_getElem hg1
      generalize l[i]'hg1 = x at hx
      obtain ⟨b, o, rfl, hb⟩ := HL.out.at_ (by omega)
      have HAT := hid ((HL.out.below HIi.out.b).rows b o rfl i x hx)
      have HOK := hid (HL.out.ok x (List.mem_of_getElem? hx))
      have hbb := boxA_below wr x
      have HA5 := hid (boxA_row wr x)
      obtain ⟨S, s, live, h1, h2, h3, h4, h5⟩ := HIi.out.ex
      have H1 := hid (h1.below hbb)
      have H2 := hid h2
      have H3 := hid (HCC.out.keep h3 (fun b hb => hbb.block b (HCC.out.lt h3 b hb)) hbb.size)
      have H4 := hid h4
      have HB5 := hid (HIi.out.b.trans (hbb.mono HIi.out.b.size))
      obtain ⟨ht0, hl0⟩ := HIi.out.t0
      have hli := HIi.out.li
      clear hx hbb h1 h2 h3 h4 HIi
      go_upto_region 10 with (first
        | ((with_reducible refine at_op ⟨some 42, _, _, _, _, _⟩ ?_); refine wpList_run rfl _ (load_act rfl rfl HAT.out) ?_)
        | ((with_reducible refine at_op ⟨none, .store 36 (.tmp 9) (.tmp 42), _, _, _, _⟩ ?_); refine wpList_store_row rfl 36 _ _ rfl wr.heap.size (acc x).toArray rfl rfl 36 zAct (heap_alloc_new _ _) (sizeA x) rfl (oneA x) ?_)
        | fail)
      change Code.wp _ _ _ _ (boxA wr x)
      obtain ⟨w5, hw5⟩ : ∃ w5, w5 = boxA wr x := ⟨_, rfl⟩
      obtain ⟨g5, hg5⟩ : ∃ g, g = wr.heap.size := ⟨_, rfl⟩
      rw [← hw5, ← hg5] at HA5
      rw [← hw5] at H1 H3 HB5 ⊢
      rw [← hg5]
      clear hw5 hg5 HAT
      have c0 := HA5.out.c0
      obtain ⟨av, kv, hv5, hkv1, hkv2, hgv⟩ := H1.out.form
      subst hv5
      obtain ⟨n, hn⟩ : ∃ n, n = live.length := ⟨_, rfl⟩
      rw [← hn] at hkv1 h5 H1 ⊢
      have HN := hid hn
      have HGV := hid hgv
      clear hn hgv
      by_cases hn0 : n = 0
      · subst hn0
        go_wp2_with fail
        refine (HCC.out.make S w5 _ s 3 0 HB5.out H3.out (by simp [Nm]) (by simp [Hn])).mono ?_
        rintro e w6 ⟨hf, s', hh, er, rfl, hmk, hR6⟩
        have hb6 : Below w.heap.size w w6 := HB5.out.trans (hf.below HB5.out.size H2.out)
        have HB6 := hid hb6
        have HR6 := hid hR6
        have HRow6 := hid (H1.out.fr hf)
        have HS6 := hid (exS_ge (w' := w6) H2.out HB5.out.size)
        cases hmk with
        | arg h => omega
        | stale h h0 => exact absurd rfl h0
        | inner h h0 => exact absurd rfl h0
        | full h h0 hF =>
          have HI6 := hid (show ForI Rp w (i + 1) (.pointer (some ⟨pb, 0, none⟩)) (.slice av 0 kv) laid told w6 from ⟨⟨_, s, live, HRow6.out, HS6.out, HR6.out, H4.out, by have := HN.out; omega⟩, HB6.out, ⟨ht0, hl0⟩, by omega⟩)
          clear hb6 hR6 hf HB6 HR6 HRow6 HS6 H1 H2 H3 H4 HB5 HA5 c0 h h0 hF
          go_wp2
          go_roundw
          case rel => exact ⟨i + 1, laid, told, by omega, by omega, by go_num, rfl, rfl, HI6⟩
          case measure => simp [intOf]; omega
        | @ok h h0 ii gg A' hp =>
          have hnd := (HCC.out.ok hR6).nd
          obtain ⟨y, hy⟩ : ∃ y, y = hand ii gg := ⟨_, rfl⟩
          have HF6 := hid (H4.out.make (x := y) (by rw [hy]; exact hnd))
          have HLT6 := hid (HCC.out.lt hR6)
          have HS7 := hid (show (addIn s.L 0 (hand ii gg) ++ [newOb (hand ii gg) 0 (3 : Int).toNat]) = s.L ++ [newOb y 0 3] by rw [hy]; rfl)
          rw [← hy]
          clear hb6 hR6 hf H1 H2 H3 H4 HB5 HA5 c0 h h0 hp hnd hy
          go_wp2_with (first
            | (at_builtin; refine wpList_append_own_at _ (o := ⟨some 62, _, _, _, _, _⟩) rfl (.tmp 59) (.tmp 61) 43 rfl w.heap.size 34 i0 (.int .u64 0) 1 8 Try.underlying43 hi'.out hz0'.out hz1'.out hz2'.out rfl (by decide) (.slice av 0 kv) _ _ rfl (HRow6.out.own.alloc _) ⟨w6.heap.size, 0, none⟩ 1 1 [.int .u64 y] rfl rfl (World.news_of_block (heap_alloc_new w6 _)) (fun u hu => by rw [List.mem_singleton.1 hu]; rfl) (by have := HN.out; unfold maxLen; omega) (by have := HN.out; omega) (by have := HB6.out.size; simp; omega) ?_; intro vz wz hownz hgrowz hnilz hatz; have HOz := hid hownz; have HGz := hid hgrowz; have HAz := hid hatz; clear hownz hgrowz hnilz hatz)
            | fail)
          obtain ⟨hr7, hf7⟩ := HRow6.out.app (x := y) HLT6.out HOz.out HGz.out HAz.out
          have hob : ∀ k, (Value.slice av 0 kv).ownBlock = some k → w.heap.size ≤ k ∧ ¬ exS S w5 w6 k := fun k hk => ⟨(HRow6.out.own.lt k (by first | exact hk | simpa using hk)).1, HRow6.out.off k (by first | exact hk | simpa using hk)⟩
          have HI6 := hid (show ForI Rp w (i + 1) (.pointer (some ⟨pb, 0, none⟩)) vz laid told wz from ⟨⟨_, _, live ++ [y], hr7, HS6.out, HCC.out.keep HR6.out (fun b hb => hf7.block b (HLT6.out b hb) (fun hk => (hob b hk).2 hb)) hf7.size, by rw [HS7.out]; exact HF6.out, by have := HN.out; simp; omega⟩, HB6.out.trans (hf7.below HB6.out.size fun k hk => (hob k hk).1), ⟨ht0, hl0⟩, by omega⟩)
          clear hr7 hf7 HOz HGz HAz HF6 HLT6 HR6 HRow6 HS6 HB6 HS7 hob
          go_wp2
          go_roundw
          case rel => exact ⟨i + 1, laid, told, by omega, by omega, by go_num, rfl, rfl, HI6⟩
          case measure => simp [intOf]; omega
      have d1 : ((n : Int) == 0) = false := by simp; omega
      by_cases hk0 : (bits .and .i64 x.kind 3 == 0) = true
      · go_wp2_with fail
        refine (HCC.out.make S w5 _ s 3 0 HB5.out H3.out (by simp [Nm]) (by simp [Hn])).mono ?_
        rintro e w6 ⟨hf, s', hh, er, rfl, hmk, hR6⟩
        have hb6 : Below w.heap.size w w6 := HB5.out.trans (hf.below HB5.out.size H2.out)
        have HB6 := hid hb6
        have HR6 := hid hR6
        have HRow6 := hid (H1.out.fr hf)
        have HS6 := hid (exS_ge (w' := w6) H2.out HB5.out.size)
        cases hmk with
        | arg h => omega
        | stale h h0 => exact absurd rfl h0
        | inner h h0 => exact absurd rfl h0
        | full h h0 hF =>
          have HI6 := hid (show ForI Rp w (i + 1) (.pointer (some ⟨pb, 0, none⟩)) (.slice av n kv) laid told w6 from ⟨⟨_, s, live, HRow6.out, HS6.out, HR6.out, H4.out, by have := HN.out; omega⟩, HB6.out, ⟨ht0, hl0⟩, by omega⟩)
          clear hb6 hR6 hf HB6 HR6 HRow6 HS6 H1 H2 H3 H4 HB5 HA5 c0 h h0 hF
          go_wp2
          go_roundw
          case rel => exact ⟨i + 1, laid, told, by omega, by omega, by go_num, rfl, rfl, HI6⟩
          case measure => simp [intOf]; omega
        | @ok h h0 ii gg A' hp =>
          have hnd := (HCC.out.ok hR6).nd
          obtain ⟨y, hy⟩ : ∃ y, y = hand ii gg := ⟨_, rfl⟩
          have HF6 := hid (H4.out.make (x := y) (by rw [hy]; exact hnd))
          have HLT6 := hid (HCC.out.lt hR6)
          have HS7 := hid (show (addIn s.L 0 (hand ii gg) ++ [newOb (hand ii gg) 0 (3 : Int).toNat]) = s.L ++ [newOb y 0 3] by rw [hy]; rfl)
          rw [← hy]
          clear hb6 hR6 hf H1 H2 H3 H4 HB5 HA5 c0 h h0 hp hnd hy
          go_wp2_with (first
            | (at_builtin; refine wpList_append_own_at _ (o := ⟨some 62, _, _, _, _, _⟩) rfl (.tmp 59) (.tmp 61) 43 rfl w.heap.size 34 i0 (.int .u64 0) 1 8 Try.underlying43 hi'.out hz0'.out hz1'.out hz2'.out rfl (by decide) (.slice av n kv) _ _ rfl (HRow6.out.own.alloc _) ⟨w6.heap.size, 0, none⟩ 1 1 [.int .u64 y] rfl rfl (World.news_of_block (heap_alloc_new w6 _)) (fun u hu => by rw [List.mem_singleton.1 hu]; rfl) (by have := HN.out; unfold maxLen; omega) (by have := HN.out; omega) (by have := HB6.out.size; simp; omega) ?_; intro vz wz hownz hgrowz hnilz hatz; have HOz := hid hownz; have HGz := hid hgrowz; have HAz := hid hatz; clear hownz hgrowz hnilz hatz)
            | fail)
          obtain ⟨hr7, hf7⟩ := HRow6.out.app (x := y) HLT6.out HOz.out HGz.out HAz.out
          have hob : ∀ k, (Value.slice av n kv).ownBlock = some k → w.heap.size ≤ k ∧ ¬ exS S w5 w6 k := fun k hk => ⟨(HRow6.out.own.lt k (by first | exact hk | simpa using hk)).1, HRow6.out.off k (by first | exact hk | simpa using hk)⟩
          have HI6 := hid (show ForI Rp w (i + 1) (.pointer (some ⟨pb, 0, none⟩)) vz laid told wz from ⟨⟨_, _, live ++ [y], hr7, HS6.out, HCC.out.keep HR6.out (fun b hb => hf7.block b (HLT6.out b hb) (fun hk => (hob b hk).2 hb)) hf7.size, by rw [HS7.out]; exact HF6.out, by have := HN.out; simp; omega⟩, HB6.out.trans (hf7.below HB6.out.size fun k hk => (hob k hk).1), ⟨ht0, hl0⟩, by omega⟩)
          clear hr7 hf7 HOz HGz HAz HF6 HLT6 HR6 HRow6 HS6 HB6 HS7 hob
          go_wp2
          go_roundw
          case rel => exact ⟨i + 1, laid, told, by omega, by omega, by go_num, rfl, rfl, HI6⟩
          case measure => simp [intOf]; omega
      have d2 : (bits .and .i64 x.kind 3 == 0) = false := by simpa using hk0
      clear hk0
      have c2 := HA5.out.c2
      have hm0 := Int.emod_nonneg x.h (show (n : Int) ≠ 0 by omega)
      have hm1 := Int.emod_lt_of_pos x.h (show (0 : Int) < n by omega)
      obtain ⟨k, hk, hkn⟩ : ∃ k : Nat, x.h % (n : Int) = (k : Int) ∧ k < n := ⟨(x.h % (n : Int)).toNat, by omega, by omega⟩
      have HPK := hid (fun W => Pick_any x.h (n : Int) W HOK.out.2.2.1 (by omega) (by omega))
      rw [hk] at HPK
      clear hm0 hm1 hk
      go_wp2_with fail
      refine (HPK.out _).mono ?_
      rintro e w5x ⟨rfl, hwx⟩
      rw [← hwx]
      clear hwx HPK c2
      obtain ⟨gv, rfl, hgv1, hgv2, hgv3⟩ := HGV.out (by have := HN.out; omega)
      have hy : live[k]? = some (live[k]'(by have := HN.out; omega)) := List.getElem?_eq_getElem _
      generalize live[k]'(by have := HN.out; omega) = y at hy
      have ck := H1.out.cell HN.out hy
      have HY := hid hy
      have hyn : Hn y := by
        obtain ⟨o, ho, rfl⟩ := (H4.out.mem y).1 (List.mem_of_getElem? hy)
        have hok := HCC.out.ok H3.out
        have := hok.nz o.h (hok.sub o ho)
        simp only [Hn]; omega
      have HYN := hid hyn
      clear hy hyn
      by_cases hk1 : (bits .and .i64 x.kind 3 == 1) = true
      · go_wp2_with fail
        refine (HCC.out.dn S w5 _ s y HB5.out H3.out HYN.out).mono ?_
        rintro e w6 ⟨hf, s', g, f, er, vg, vf, rfl, htg, htf, hdr, hR6⟩
        cases hdr with
        | stale hf0 =>
          obtain ⟨o, ho, e⟩ := (H4.out.mem y).1 (List.mem_of_getElem? HY.out)
          exact absurd e (fnd_none.1 hf0 o ho)
        | @ok ob hfo L' A' g f hdn hdr =>
          have hz : live[live.length - 1]? = some (live[live.length - 1]'(by have := HN.out; omega)) := List.getElem?_eq_getElem _
          generalize live[live.length - 1]'(by have := HN.out; omega) = z at hz
          have hfl := H4.out.down HY.out hz hdn
          have hb6 : Below w.heap.size w w6 := HB5.out.trans (hf.below HB5.out.size H2.out)
          obtain ⟨af, cf, hvf, hcf1, hcf2, _⟩ := htf.ex
          subst hvf
          have hr6 := H1.out.fr hf
          have cz : w6.cell? ⟨gv, n - 1, none⟩ = some (u64v z) := hr6.cell HN.out (by rw [HN.out]; exact hz)
          have fk := hr6.fz HN.out k
          obtain ⟨ck6, hrk⟩ : (∃ u, w6.cell? ⟨gv, k, none⟩ = some u) ∧ True := ⟨⟨_, hr6.cell HN.out HY.out⟩, trivial⟩
          obtain ⟨uk, ck6⟩ := ck6
          obtain ⟨hr7, hf7⟩ := hr6.put HN.out k z
          have hlt6 := HCC.out.lt hR6
          have hge6 := exS_ge (w' := w6) H2.out HB5.out.size
          have hr8 := hr7.cut (m := n - 1) (by rw [List.length_set]; exact HN.out) (by omega)
          have hsw : (live.set k z).take (n - 1) = swp live k z := by unfold swp; rw [← HN.out]
          rw [hsw] at hr8
          have hR7 := HCC.out.keep hR6 (fun b hb => hf7.block b (hlt6 b hb) (fun e => hr6.off gv rfl (e ▸ hb))) hf7.size
          obtain ⟨m, hm⟩ : ∃ m : Nat, m = f.length := ⟨_, rfl⟩
          rw [← hm] at hfl hcf1 ⊢
          have hmb : told + (m : Int) ≤ laid := by have := hfl.tot; omega
          have wm : IntKind.u64.wrap (m : Int) = m := IntWalk.u64_in _ (by omega)
          have wt : IntKind.u64.wrap (told + (m : Int)) = told + m := IntWalk.u64_in _ (by omega)
          have wn : IntKind.i64.wrap ((n : Int) - 1) = ((n - 1 : Nat) : Int) := by rw [IntWalk.i64_in _ (by omega)]; omega
          have HI6 := hid (show ForI Rp w (i + 1) (.pointer (some ⟨pb, 0, none⟩)) (.slice (some ⟨gv, 0, none⟩) (n - 1) kv) laid (told + m) (w6.setCell ⟨gv, k, none⟩ (.int .u64 z)) from ⟨⟨_, _, _, hr8, hge6, hR7, hfl, by have := HN.out; unfold swp; simp; omega⟩, hb6.trans (hf7.below hb6.size fun b e => by omega), ⟨by omega, hl0⟩, by omega⟩)
          have cz : w6.cell? ⟨gv, n - 1, none⟩ = some (.int .u64 z) := cz
          clear hz hfl hb6 htg htf hdn hdr hfo hR6 hf hr6 hr7 hf7 hlt6 hge6 hr8 hsw hR7 H1 H2 H3 H4 HB5 HA5 c0 ck hrk HY HYN hm
          go_wp2
          go_roundw
          case rel => exact ⟨i + 1, laid, told + m, by omega, by omega, by go_num, rfl, rfl, HI6⟩
          case measure => simp [intOf]; omega
      have d3 : (bits .and .i64 x.kind 3 == 1) = false := by simpa using hk1
      clear hk1
      have wl : IntKind.u64.wrap (laid + 1) = laid + 1 := IntWalk.u64_in _ (by omega)
      obtain ⟨sl, hsl⟩ : ∃ q : Nat, x.a % 3 = (q : Int) := ⟨(x.a % 3).toNat, by omega⟩
      have hsl3 : sl < 3 := by omega
      have HPK := hid (fun W => Pick_any x.a 3 W HOK.out.2.1 (by omega) (by omega))
      rw [hsl] at HPK
      have c1 := HA5.out.c1
      clear hsl
      go_upto_region 23 with (fail)
      obtain ⟨wd, hwd⟩ : ∃ wd, wd = w5.drew := ⟨_, rfl⟩
      have hd0 : Below w5.heap.size w5 wd := by rw [hwd]; exact (Below.refl _ _).drew
      have HD := hid hd0
      have H3d := hid (HCC.out.keep H3.out (fun b hb => hd0.block b (HCC.out.lt H3.out b hb)) hd0.size)
      have H1d := hid (H1.out.below hd0)
      have HB5d := hid (HB5.out.trans (hd0.mono HB5.out.size))
      have S0 : w5.drew.cell? ⟨gv, k, none⟩ = some (.int .u64 y) ∧ w5.drew.cell? ⟨g5, 1, none⟩ = some (.int .i64 x.a) := ⟨by simpa using ck, by simpa using c1⟩
      refine D.wp_region_mix [0, 0, 0, 0, 1, 0, 1, 2, 0, 0, 3, 0, 0, 0, 0, 0, 0, 0] (fun W => W.cell? ⟨gv, k, none⟩ = some (.int .u64 y) ∧ W.cell? ⟨g5, 1, none⟩ = some (.int .i64 x.a)) (by kernel_rfl) (by kernel_rfl) S0 ?_
      rw [← hwd] at S0 ⊢
      clear hwd hd0
      repeat (first
        | (refine' C.wpMix_read _ rfl rfl _ _; rotate_left; (solve | (intro W hS; obtain ⟨q1, q2⟩ := hS; go_simp) | (intro W hS; obtain ⟨q1, q2⟩ := hS; go_simp; with_reducible rfl)); simp only [Act.put, List.setIfInBounds_toArray, List.set_cons_zero, List.set_cons_succ])
        | (refine' C.wpMix_value _ rfl rfl _ _; rotate_left; (solve | (intro W; go_simp) | (intro W; go_simp; with_reducible rfl)); simp only [Act.put, List.setIfInBounds_toArray, List.set_cons_zero, List.set_cons_succ]))
      refine C.wpMix_call 16 #[.int .i64 x.a, .int .i64 3] (by decide) rfl (by go_simp) ?_
      refine (HPK.out wd).mono ?_
      rintro e wp ⟨rfl, hwp⟩
      subst hwp
      refine ⟨_, rfl, fun _ => S0, ?_⟩
      simp only [Act.put, List.setIfInBounds_toArray, List.set_cons_zero, List.set_cons_succ]
      repeat (refine' C.wpMix_value _ rfl rfl _ _; rotate_left; (solve | (intro W; go_simp) | (intro W; go_simp; with_reducible rfl)); simp only [Act.put, List.setIfInBounds_toArray, List.set_cons_zero, List.set_cons_succ])
      refine C.wpMix_call 27 #[.pointer (some ⟨pb, 0, none⟩), .int .u64 y, .int .i64 (sl : Int), .agg #[.int .i64 2, .int .u64 (laid + 1)]] (by decide) rfl (by go_simp) ?_
      refine (HCC.out.pu S wd _ s y sl ⟨2, laid + 1⟩ HB5d.out H3d.out HYN.out (by simp only [Nm]; omega) (by simp [Nm]) (by simp only [Hn]; omega)).mono ?_
      rintro e w6 ⟨hf, s', g, f, er, vg, vf, rfl, htg, htf, hpr, hR6⟩
      refine ⟨_, rfl, (fun h => by cases h), ?_⟩
      simp only [Act.put, List.setIfInBounds_toArray, List.set_cons_zero, List.set_cons_succ]
      obtain ⟨ob, hob, hoy⟩ := (H4.out.mem y).1 (List.mem_of_getElem? HY.out)
      have hl3 := (H4.out.ln ob hob).1
      have hfn : fnd s.L y = some ob := by rw [← hoy]; exact fnd_mem H4.out.ok.nd hob
      cases hpr with
      | stale hf0 => rw [hfn] at hf0; cases hf0
      | arg o1 hf0 hb0 =>
        rw [hfn] at hf0; cases hf0
        simp only at hb0
        omega
      | no o1 hf0 hs0 hk0 => simp only at hk0; omega
      | obj o1 hf0 hs0 hk0 => simp only at hk0; omega
      | @oth o1 hf0 hs0 hk0 old ho0 L' A' g f hp0 ha0 =>
        rw [hfn] at hf0; cases hf0
        rw [Int.toNat_natCast] at ho0 hp0
        obtain ⟨hfl, hf1, hfz⟩ := H4.out.put hl0 hob hoy.symm ho0 hp0
        have hb6 : Below w.heap.size w w6 := HB5d.out.trans (hf.below HB5d.out.size H2.out)
        have hr6 := H1d.out.fr hf
        have hge6 := exS_ge (w' := w6) H2.out HB5d.out.size
        obtain ⟨af, cf, hvf, hcf1, hcf2, hcf3⟩ := htf.ex
        obtain ⟨_, _, hvg, _, _, _⟩ := htg.ex
        subst hvf hvg
        have hmb : told + (f.length : Int) ≤ laid + 1 := by have := hfl.tot; omega
        have HI6 := hid (show ForI Rp w (i + 1) (.pointer (some ⟨pb, 0, none⟩)) (.slice (some ⟨gv, 0, none⟩) n kv) (laid + 1) (told + f.length) w6 from ⟨⟨_, _, live, hr6, hge6, hR6, hfl, by have := HN.out; omega⟩, hb6, ⟨by omega, by omega⟩, by omega⟩)
        have wt : IntKind.u64.wrap (told + (f.length : Int)) = told + f.length := IntWalk.u64_in _ (by omega)
        rcases f with _ | ⟨z, f⟩
        · clear hfn hf hp0 ha0 ho0 hfl hf1 hfz hb6 hr6 hge6 hcf3 htf htg hR6 hob hoy hl3 H1 H2 H3 H4 HB5 HA5 c0 c1 ck HY HYN HD H3d H1d HB5d S0
          repeat (refine' C.wpMix_value _ rfl rfl _ _; rotate_left; (solve | (intro W; go_simp) | (intro W; go_simp; with_reducible rfl)); simp only [Act.put, List.setIfInBounds_toArray, List.set_cons_zero, List.set_cons_succ])
          refine C.wpMix_end ?_
          go_wp2
          go_roundw
          case rel => exact ⟨i + 1, laid + 1, told + 0, by omega, by omega, by go_num, rfl, by simp, HI6⟩
          case measure => simp [intOf]; omega
        · obtain rfl : f = [] := by cases f with
            | nil => rfl
            | cons a f => simp at hf1
          have hz := hfz z (by simp)
          obtain ⟨bf, of, rfl, hbf, hcf⟩ := hcf3 (by simp)
          have cz : w6.cell? ⟨bf, of, none⟩ = some (.int .u64 z) := by have := hcf 0 _ rfl; simpa using this
          have dz : decide (laid + 1 ≤ z) = false := decide_eq_false (by omega)
          have wt1 : IntKind.u64.wrap (told + 1) = told + 1 := by simpa using wt
          have HI7 : RowKit.Hid (ForI Rp w (i + 1) (.pointer (some ⟨pb, 0, none⟩)) (.slice (some ⟨gv, 0, none⟩) n kv) (laid + 1) (told + 1) w6) := by simpa using HI6
          clear hfn hf hp0 ha0 ho0 hfl hf1 hfz hb6 hr6 hge6 htf htg hR6 hob hoy hl3 H1 H2 H3 H4 HB5 HA5 c0 c1 ck HY HYN HD H3d H1d HB5d S0 hcf hz wt HI6
          repeat (refine' C.wpMix_value _ rfl rfl _ _; rotate_left; (solve | (intro W; go_simp) | (intro W; go_simp; with_reducible rfl)); simp only [Act.put, List.setIfInBounds_toArray, List.set_cons_zero, List.set_cons_succ])
          refine C.wpMix_end ?_
          go_wp2
          exact ⟨⟨i + 1, laid + 1, told + 1, by omega, by omega, by go_num, rfl, rfl, HI7⟩, by simp [intOf]; omega⟩
    · by_cases hgl : i < l.length
      · have hg60 : ¬ i < 60 := fun h => hgo ⟨hgl, h⟩
        clear hgo
        obtain ⟨S, s, live, h1, h2, h3, h4, h5⟩ := HIi.out.ex
        obtain ⟨av, kv, hv5, hkv1, hkv2, hgv⟩ := h1.form
        subst hv5
        obtain ⟨n, hn⟩ : ∃ n, n = live.length := ⟨_, rfl⟩
        have HN := hid hn
        rw [← hn] at hkv1 h5 h1 ⊢
        have HIe := hid (show EndI Rp w 0 (.pointer (some ⟨pb, 0, none⟩)) (.slice av n kv) live laid told wr from ⟨⟨S, s, h1, h2, h3, by rw [List.drop_zero]; exact h4⟩, HIi.out.b, HIi.out.t0⟩)
        have hla : laid ≤ 60 := by have := HIi.out.li; omega
        have HND := hid (fun y (hy : y ∈ live) => (show Hn y by
          obtain ⟨o, ho, rfl⟩ := (h4.mem y).1 hy
          have hok := HCC.out.ok h3
          have := hok.nz o.h (hok.sub o ho)
          simp only [Hn]; omega))
        clear hn h1 h2 h3 h4 HIi hgv
        go_wp2
        go_loopw [19, 7] (fun p to wr => ∃ (j : Nat) (told : Int), j ≤ n ∧ p = .int .i64 j ∧ to = .int .u64 told ∧ RowKit.Hid (EndI Rp w j (.pointer (some ⟨pb, 0, none⟩)) (.slice av n kv) live laid told wr)) (fun p _ _ => n - (intOf p).toNat)
        case atStart => exact ⟨0, told, by omega, rfl, rfl, HIe⟩
        case round =>
          obtain ⟨j, told, hj, rfl, rfl, HIj⟩ := hrel
          clear HIe
          by_cases hjn : j < n
          · have hy : live[j]? = some (live[j]'(by have := HN.out; omega)) := List.getElem?_eq_getElem _
            generalize live[j]'(by have := HN.out; omega) = y at hy
            obtain ⟨S, s, h1, h2, h3, h4⟩ := HIj.out.ex
            obtain ⟨ht0, hl0⟩ := HIj.out.t0
            obtain ⟨a', k', he', _, _, hgv⟩ := h1.form
            obtain ⟨gv, rfl, _⟩ : ∃ gv, av = some ⟨gv, 0, none⟩ ∧ True := by
              obtain ⟨gv, e, _⟩ := hgv (by have := HN.out; omega)
              cases he'
              exact ⟨gv, e, trivial⟩
            have ck := h1.cell HN.out hy
            have ck : wr.cell? ⟨gv, j, none⟩ = some (.int .u64 y) := ck
            have H1 := hid h1
            have H2 := hid h2
            have H3 := hid h3
            have H4 := hid h4
            have HY := hid hy
            have HB := hid HIj.out.b
            have HYN := hid (HND.out y (List.mem_of_getElem? hy))
            clear h1 h2 h3 h4 hy he' hgv HIj
            go_wp2_with fail
            refine (HCC.out.dn S wr _ s y HB.out H3.out HYN.out).mono ?_
            rintro e w6 ⟨hf, s', g, f, er, vg, vf, rfl, htg, htf, hdr, hR6⟩
            have hyd : (live.drop j)[0]? = some y := by rw [List.getElem?_drop]; exact HY.out
            cases hdr with
            | stale hf0 =>
              obtain ⟨o, ho, e⟩ := (H4.out.mem y).1 (List.mem_of_getElem? hyd)
              exact absurd e (fnd_none.1 hf0 o ho)
            | @ok ob hfo L' A' g f hdn hdr =>
              have hfl := H4.out.first hyd hdn
              rw [List.drop_drop] at hfl
              have hb6 : Below w.heap.size w w6 := HB.out.trans (hf.below HB.out.size H2.out)
              obtain ⟨af, cf, hvf, _⟩ := htf.ex
              subst hvf
              obtain ⟨m, hm⟩ : ∃ m : Nat, m = f.length := ⟨_, rfl⟩
              rw [← hm] at hfl ⊢
              have hmb : told + (m : Int) ≤ laid := by have := hfl.tot; omega
              have wm : IntKind.u64.wrap (m : Int) = m := IntWalk.u64_in _ (by omega)
              have wt : IntKind.u64.wrap (told + (m : Int)) = told + m := IntWalk.u64_in _ (by omega)
              have HI6 := hid (show EndI Rp w (j + 1) (.pointer (some ⟨pb, 0, none⟩)) (.slice (some ⟨gv, 0, none⟩) n kv) live laid (told + m) w6 from ⟨⟨_, _, H1.out.fr hf, exS_ge H2.out HB.out.size, hR6, hfl⟩, hb6, ⟨by omega, hl0⟩⟩)
              clear hfl hb6 htg htf hdn hdr hfo hR6 hf H1 H2 H3 H4 HB HY HYN hyd hm ck
              go_wp2
              go_roundw
              case rel => exact ⟨j + 1, told + m, by omega, by go_num, rfl, HI6⟩
              case measure => simp [intOf]; omega
          · obtain rfl : j = n := by omega
            obtain ⟨S, s, h1, h2, h3, h4⟩ := HIj.out.ex
            have hd0 : live.drop j = [] := List.drop_eq_nil_of_le (by have := HN.out; omega)
            rw [hd0] at h4
            have hL0 : s.L = [] := List.eq_nil_iff_forall_not_mem.2 fun o ho => by
              have := (h4.mem o.h).2 ⟨o, ho, rfl⟩
              cases this
            have htl : told = laid := by
              have := h4.tot
              rw [hL0] at this
              simpa [ftot] using this
            have dt : (told == laid) = true := by simpa using htl
            have hal := allA_nil (HCC.out.ok h3) hL0
            have HA := hid (HCC.out.all S wr _ s 9 HIj.out.b h3 (by omega))
            have HB := hid HIj.out.b
            rw [hal] at HA
            clear h1 h2 h3 h4 hd0 hL0 hal HIj
            go_wp2_with fail
            refine HA.out.mono ?_
            rintro e w7 ⟨hb7, v7, rfl, htv⟩
            obtain ⟨a7, c7, hv7, _⟩ := htv.ex
            subst hv7
            have HB7 := hid (HB.out.trans (hb7.mono HB.out.size))
            clear hb7 HA
            go_wp2_with fail
            refine (HCC.out.awk w7 HB7.out).mono ?_
            rintro e w8 ⟨hb8, rfl⟩
            have HB8 := hid (HB7.out.trans (hb8.mono HB7.out.size))
            clear hb8
            go_wp2
            go_ret
            exact ⟨rfl, HB8.out⟩
      · clear hgo
        obtain ⟨S, s, live, h1, h2, h3, h4, h5⟩ := HIi.out.ex
        obtain ⟨av, kv, hv5, hkv1, hkv2, hgv⟩ := h1.form
        subst hv5
        obtain ⟨n, hn⟩ : ∃ n, n = live.length := ⟨_, rfl⟩
        have HN := hid hn
        rw [← hn] at hkv1 h5 h1 ⊢
        have HIe := hid (show EndI Rp w 0 (.pointer (some ⟨pb, 0, none⟩)) (.slice av n kv) live laid told wr from ⟨⟨S, s, h1, h2, h3, by rw [List.drop_zero]; exact h4⟩, HIi.out.b, HIi.out.t0⟩)
        have hla : laid ≤ 60 := by have := HIi.out.li; omega
        have HND := hid (fun y (hy : y ∈ live) => (show Hn y by
          obtain ⟨o, ho, rfl⟩ := (h4.mem y).1 hy
          have hok := HCC.out.ok h3
          have := hok.nz o.h (hok.sub o ho)
          simp only [Hn]; omega))
        clear hn h1 h2 h3 h4 HIi hgv
        go_wp2
        go_loopw [19, 7] (fun p to wr => ∃ (j : Nat) (told : Int), j ≤ n ∧ p = .int .i64 j ∧ to = .int .u64 told ∧ RowKit.Hid (EndI Rp w j (.pointer (some ⟨pb, 0, none⟩)) (.slice av n kv) live laid told wr)) (fun p _ _ => n - (intOf p).toNat)
        case atStart => exact ⟨0, told, by omega, rfl, rfl, HIe⟩
        case round =>
          obtain ⟨j, told, hj, rfl, rfl, HIj⟩ := hrel
          clear HIe
          by_cases hjn : j < n
          · have hy : live[j]? = some (live[j]'(by have := HN.out; omega)) := List.getElem?_eq_getElem _
            generalize live[j]'(by have := HN.out; omega) = y at hy
            obtain ⟨S, s, h1, h2, h3, h4⟩ := HIj.out.ex
            obtain ⟨ht0, hl0⟩ := HIj.out.t0
            obtain ⟨a', k', he', _, _, hgv⟩ := h1.form
            obtain ⟨gv, rfl, _⟩ : ∃ gv, av = some ⟨gv, 0, none⟩ ∧ True := by
              obtain ⟨gv, e, _⟩ := hgv (by have := HN.out; omega)
              cases he'
              exact ⟨gv, e, trivial⟩
            have ck := h1.cell HN.out hy
            have ck : wr.cell? ⟨gv, j, none⟩ = some (.int .u64 y) := ck
            have H1 := hid h1
            have H2 := hid h2
            have H3 := hid h3
            have H4 := hid h4
            have HY := hid hy
            have HB := hid HIj.out.b
            have HYN := hid (HND.out y (List.mem_of_getElem? hy))
            clear h1 h2 h3 h4 hy he' hgv HIj
            go_wp2_with fail
            refine (HCC.out.dn S wr _ s y HB.out H3.out HYN.out).mono ?_
            rintro e w6 ⟨hf, s', g, f, er, vg, vf, rfl, htg, htf, hdr, hR6⟩
            have hyd : (live.drop j)[0]? = some y := by rw [List.getElem?_drop]; exact HY.out
            cases hdr with
            | stale hf0 =>
              obtain ⟨o, ho, e⟩ := (H4.out.mem y).1 (List.mem_of_getElem? hyd)
              exact absurd e (fnd_none.1 hf0 o ho)
            | @ok ob hfo L' A' g f hdn hdr =>
              have hfl := H4.out.first hyd hdn
              rw [List.drop_drop] at hfl
              have hb6 : Below w.heap.size w w6 := HB.out.trans (hf.below HB.out.size H2.out)
              obtain ⟨af, cf, hvf, _⟩ := htf.ex
              subst hvf
              obtain ⟨m, hm⟩ : ∃ m : Nat, m = f.length := ⟨_, rfl⟩
              rw [← hm] at hfl ⊢
              have hmb : told + (m : Int) ≤ laid := by have := hfl.tot; omega
              have wm : IntKind.u64.wrap (m : Int) = m := IntWalk.u64_in _ (by omega)
              have wt : IntKind.u64.wrap (told + (m : Int)) = told + m := IntWalk.u64_in _ (by omega)
              have HI6 := hid (show EndI Rp w (j + 1) (.pointer (some ⟨pb, 0, none⟩)) (.slice (some ⟨gv, 0, none⟩) n kv) live laid (told + m) w6 from ⟨⟨_, _, H1.out.fr hf, exS_ge H2.out HB.out.size, hR6, hfl⟩, hb6, ⟨by omega, hl0⟩⟩)
              clear hfl hb6 htg htf hdn hdr hfo hR6 hf H1 H2 H3 H4 HB HY HYN hyd hm ck
              go_wp2
              go_roundw
              case rel => exact ⟨j + 1, told + m, by omega, by go_num, rfl, HI6⟩
              case measure => simp [intOf]; omega
          · obtain rfl : j = n := by omega
            obtain ⟨S, s, h1, h2, h3, h4⟩ := HIj.out.ex
            have hd0 : live.drop j = [] := List.drop_eq_nil_of_le (by have := HN.out; omega)
            rw [hd0] at h4
            have hL0 : s.L = [] := List.eq_nil_iff_forall_not_mem.2 fun o ho => by
              have := (h4.mem o.h).2 ⟨o, ho, rfl⟩
              cases this
            have htl : told = laid := by
              have := h4.tot
              rw [hL0] at this
              simpa [ftot] using this
            have dt : (told == laid) = true := by simpa using htl
            have hal := allA_nil (HCC.out.ok h3) hL0
            have HA := hid (HCC.out.all S wr _ s 9 HIj.out.b h3 (by omega))
            have HB := hid HIj.out.b
            rw [hal] at HA
            clear h1 h2 h3 h4 hd0 hL0 hal HIj
            go_wp2_with fail
            refine HA.out.mono ?_
            rintro e w7 ⟨hb7, v7, rfl, htv⟩
            obtain ⟨a7, c7, hv7, _⟩ := htv.ex
            subst hv7
            have HB7 := hid (HB.out.trans (hb7.mono HB.out.size))
            clear hb7 HA
            go_wp2_with fail
            refine (HCC.out.awk w7 HB7.out).mono ?_
            rintro e w8 ⟨hb8, rfl⟩
            have HB8 := hid (HB7.out.trans (hb8.mono HB7.out.size))
            clear hb8
            go_wp2
            go_ret
            exact ⟨rfl, HB8.out⟩
end Go.Proofs.Ytmkajdfajcodjaa
