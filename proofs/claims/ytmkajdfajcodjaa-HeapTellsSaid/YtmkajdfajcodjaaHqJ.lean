/- MixR HqJ in one -/
import Derived.Test.YtmkajdfajcodjaaMixG
import Derived.RangeFuncCalls
import Derived.TacticsIn
import Derived.Test.YtmkajdfajcodjaaHqK
import Derived.Sort.CutIn
import Derived.Test.YtmkajdfajcodjaaKT
namespace Go.Proofs.Ytmkajdfajcodjaa.R
open Go Go.Proofs.Ytmkajdfajcodjaa Go.Proofs.Ytmkajdfajcodjaa.D

/-- No defer statement. -/
def noDefB (o : Oper) : Bool := match o.op with | .defer _ => false | _ => true
section
variable {P : Program} {ops : Array Oper} {md : Region.Mode} {S : World → Prop} {ks : List Nat} {n : Nat}

theorem wpAny_of_mix {Q : Act → World → Prop} {Q' : Exit → Act → World → Prop} {L : Nat} (hnd : ∀ (i : Nat) (o : Oper), ops[i]? = some o → ∀ c, o.op ≠ .defer c) (hk : kindsT md ops ks = true) (hl : lateB ops ks = true) (hQ : ∀ a w, Q a w → Q' .normal a w) : ∀ (fuel : Nat) (listed : Array Bool) (a : Act) (w : World),
    Closed md ops listed → (Loads ops ks listed → S w) → E.wpAnyM n P md ops S ks Q fuel listed a w → wpAnyIn (Fence.wide.inRound L) n P md ops Q' fuel listed a w
  | 0, _, _, _, _, _, h => ⟨h.1, hQ _ _ h.2⟩
  | fuel + 1, listed, a, w, hcl, hS, h => ⟨fun h0 => hQ _ _ (h.1 h0), fun i hi => by
      have h2 := h.2 i hi
      obtain ⟨hun, o, ho, hall⟩ := mem_ready.1 hi
      have hil : i < ops.size := (Array.getElem?_eq_some_iff.1 ho).1
      unfold E.mixOp at h2
      unfold wpOpIn
      simp only [ho] at h2 ⊢
      by_cases hr : ks.getD i 0 < 2
      · rw [if_pos hr] at h2
        obtain ⟨v, ⟨hw, hy⟩ | ⟨hw, rfl⟩, hK⟩ := h2
        · rw [if_pos hw]
          refine ⟨fun _ _ => trivial, ?_⟩
          show o.uponIn (Fence.wide.inRound L) n P a _ _ ((o.semAt (some L) a.eval).run P w)
          rw [Oper.semAt_some L _ o (hnd i o ho)]
          rcases hy w (fun e => hS ⟨i, hil, e, hun⟩) with hv | ⟨hv, rfl⟩
          · rw [hv]; exact wpAny_of_mix hnd hk hl hQ fuel _ _ _ (hcl.set hi) (fun hm => hS hm.less) hK
          · rw [hv]; exact wpAny_of_mix hnd hk hl hQ fuel _ _ _ (hcl.set hi) (fun hm => hS hm.less) hK
        · rw [if_neg (by rw [hw]; decide)]
          exact ⟨fun _ _ => trivial, wpAny_of_mix hnd hk hl hQ fuel _ _ _ (hcl.set hi) (fun hm => hS hm.less) hK⟩
      · rw [if_neg hr] at h2
        obtain ⟨hw, h2⟩ := h2
        have hS' : ∀ w', (ks.getD i 0 = 2 → S w') → Loads ops ks (listed.setIfInBounds i true) → S w' := fun w' hSw hm => by
          by_cases e2 : ks.getD i 0 = 2
          · exact hSw e2
          · obtain ⟨j, h1, h2, h3⟩ := hm
            have hji : i ≠ j := fun e => by subst e; omega
            have hun2 : listed.getD j true = false := by rw [getD_set_ne true hji] at h3; exact h3
            rcases Nat.lt_or_ge i j with hlt | hge
            · exact absurd h2 (late_no hl hil h1 hlt (by omega))
            · exact (listed_not (waitsN_listed hcl 8 i o ho hall (kindsT_waits (i := j) (j := i) hk hil (by omega) (.inr ⟨h2, by omega⟩))) hun2).elim
        rw [if_pos hw]
        refine ⟨fun _ _ => trivial, ?_⟩
        show o.uponIn (Fence.wide.inRound L) n P a _ _ ((o.semAt (some L) a.eval).run P w)
        rw [Oper.semAt_some L _ o (hnd i o ho)]
        rcases h2 with ⟨v, w', hv, hSw, hK⟩ | ⟨w', hv, hSw, hK⟩ | ⟨f, args, w1, hv, hc⟩ | ⟨l, f, tmps, assign, body, w1, hv, hc⟩
        · rw [hv]; exact wpAny_of_mix hnd hk hl hQ fuel _ _ _ (hcl.set hi) (hS' _ hSw) hK
        · rw [hv]; exact wpAny_of_mix hnd hk hl hQ fuel _ _ _ (hcl.set hi) (hS' _ hSw) hK
        · rw [hv]
          exact ⟨(fun h => by cases h), CallsIn.inRound L (callsIn_wide.2 (hc.mono fun e w'' ⟨v, he, hSw, hK⟩ => by subst he; exact wpAny_of_mix hnd hk hl hQ fuel _ _ _ (hcl.set hi) (hS' _ hSw) hK))⟩
        · rw [hv]
          exact ⟨(fun h => by cases h), hc.mono fun e w'' ⟨v, he, hSw, hK⟩ => by subst he; exact wpAny_of_mix hnd hk hl hQ fuel _ _ _ (hcl.set hi) (hS' _ hSw) hK⟩⟩

/-- THE LAW. -/
theorem wp_region_mix {id : Nat} {Q : Exit → Act → World → Prop} {a : Act} {w : World} {l : List Oper} (ks : List Nat) (S : World → Prop) (hm : P.follows .mixedOrders = true)
    {L : Nat} (hB : (l.all noDefB && Region.lexB .any l.toArray && kindsT .any l.toArray ks && lateB l.toArray ks) = true) (hS : S w.drew)
    (h : E.wpMix n P l.toArray S ks (Q .normal) 0 l a w.drew) : (Code.region id l.toArray true).wpIn (Fence.wide.inRound L) n P Q a w := by
  simp only [Region.lexB, Bool.and_eq_true] at hB
  have hnd : ∀ (i : Nat) (o : Oper), l.toArray[i]? = some o → ∀ c, o.op ≠ .defer c := fun i o ho c e => by
    have h1 := List.all_eq_true.1 hB.1.1.1 o (List.mem_of_getElem? (by simpa using ho))
    simp [noDefB, e] at h1
  have hc0 : Closed .any l.toArray (Array.replicate l.toArray.size false) := fun m om _ hl => by
    exfalso
    rcases Nat.lt_or_ge m l.length with h' | h' <;> simp [h'] at hl
  refine wpIn_region_any hm (wpAny_of_mix (Q := Q .normal) (S := S) (ks := ks) hnd hB.1.2 hB.2 (fun a' w' h1 => h1) _ _ _ _ hc0 (fun _ => hS) ?_)
  have := G.wpAnyM_lex (P := P) (S := S) (ks := ks) (md := .any) hB.1.1.2.1 hB.1.2 hB.2 l 0 (Array.replicate l.toArray.size false) a w.drew (by simp) (by omega) hc0 (by simpa using hB.1.1.2.2) h
  simpa using this

variable {Q : Act → World → Prop} {o : Oper} {rest : List Oper} {a : Act} {w : World} {i : Nat}
/-- append, as the text has it. -/
theorem wpMix_append (hk : 2 ≤ ks.getD i 0) (hw : Region.wanted o (yielded ops a.tmps) = true) (s x : Operand) (t : TypeId)
    (ho : o.op = .call { callee := .builtin .append, args := #[s, x], argTypes := #[t, t] })
    (base : Nat) (e : TypeId) (i0 : TypeInfo) (z : Value) (size bytes : Nat) (ht : P.underlying t = some (.slice e)) (hi : P.info? e = some i0) (hz : i0.zero = some z)
    (hsize : i0.size = size) (hby : i0.bytes = bytes) (hzs : z.cells.size = size) (hsz : 0 < size)
    (v : Value) (nn : Nat) (xs : List Value) (hs : a.eval s = v) (hown : w.ownsRow base e size v nn xs)
    (ad : Addr) (m c : Nat) (news : List Value) (hx : a.eval x = .slice (some ad) m c) (hl : news.length = m * size) (hnews : ∀ j u, news[j]? = some u → w.cell? (ad.add j) = some u) (h1 : ∀ u ∈ news, u.oneCell' = true)
    (hm : 0 < m) (h63 : nn + m ≤ maxLen) (hbytes : (nn + m) * bytes ≤ 140737488355328) (hbase : base ≤ w.heap.size) (H : Nat) (hH : w.heap.size = H)
    (h : ∀ g cap w', w'.ownsRow base e size (.slice (some ⟨g, 0, none⟩) (nn + m) cap) (nn + m) (xs ++ news) → w.grownBy w' v.ownBlock → (v.ownBlock = some g ∨ g = H) → g < w'.heap.size →
      (ks.getD i 0 = 2 → S w') ∧ E.wpMix n P ops S ks Q (i + 1) rest (a.put o.dst (.slice (some ⟨g, 0, none⟩) (nn + m) cap)) w') : E.wpMix n P ops S ks Q i (o :: rest) a w := by
  obtain ⟨g, cap, w', hr, h2, h3, h4, h5⟩ := run_append_lies (P := P) w t o.type base e i0 z size bytes ht hi hz hsize hby hzs hsz v nn xs hown ad m c news hl hnews h1 hm h63 hbytes hbase H hH
  obtain ⟨k1, k2⟩ := h g cap w' h2 h3 h4 h5
  refine E.wpMix_write _ w' hk hw ?_ k1 k2
  unfold execOp
  simp only [ho, resolve, invoke, builtin, Sem.run_bind, Sem.run_pure, Result.andThen_ok, List.map_toArray, List.map_cons, List.map_nil, hs, hx, hr]
end
end Go.Proofs.Ytmkajdfajcodjaa.R

namespace Go.Proofs.Ytmkajdfajcodjaa
open Go Go.ChangeShapes Go.WideShapes Go.ChangeAt Go.RowKit Go.Shelf
attribute [local go_sem] Oper.semAt_some

def hds (pre : List (Int × Nat)) : List Int := pre.map (·.1)
/-- Between two rounds. -/
structure DrI (w : World) (q p pa : Nat) (AA : Ar) (F : Nat → Lab) (B : Int → Nat) (top : Int) (L : HL) (wv fv : Value) (ws gs fs : List Int) (x : Ob) (sv iv : Value) (c : Int) (g : List Int) (W : World) : Prop where
  ex : ∃ Sa1 AA1 F1 gv hv, HpW W p pa Sa1 AA1 F1 B top (L.filter fun o => !(g.contains o.h)) ∧ (∀ k o, Sa1 k → W.heap[k]? = some o → o.isCells = true) ∧ SwW W q p F1 wv gv fv ws (gs ++ g) fs ∧ ObC W F1 (B x.h) sv iv c x ∧ DrR (er AA) g (er AA1) ∧
    (∀ k, k < w.heap.size → F1 k = F k) ∧ F1 w.heap.size = outL ∧ F1 (w.heap.size + 1) = outL ∧ F1 (w.heap.size + 2) = outL ∧ F1 (w.heap.size + 3) = outL ∧ Boxed W (w.heap.size + 1) 77 hv ∧
    W.ownsRow (w.heap.size + 4) 67 2 hv (g.flatMap (linksOf L)).length (lkv (g.flatMap (linksOf L))) ∧ ∀ k, hv.ownBlock = some k → F1 k = outL
  bs : Boxed W w.heap.size 143 (.pointer (some ⟨q, 0, none⟩))
  b1 : Boxed W (w.heap.size + 2) 24 (.pointer (some ⟨p, 0, none⟩))
  b2 : Boxed W (w.heap.size + 3) 34 (.int .u64 x.h)
  fr : FrF F w W
  sz : w.heap.size + 4 ≤ W.heap.size
theorem DrI.kept {w : World} {q p pa : Nat} {AA : Ar} {F : Nat → Lab} {B : Int → Nat} {top : Int} {L : HL} {wv fv : Value} {ws gs fs : List Int} {x : Ob} {sv iv : Value} {c : Int} {g : List Int} {W W' : World} {row : Option Nat} (h : DrI w q p pa AA F B top L wv fv ws gs fs x sv iv c g W) (hg : W.grownBy W' row) (hr : ∀ r, row = some r → w.heap.size + 4 ≤ r ∧ ∃ o : Obj, W.heap[r]? = some o ∧ o.isCells = false) :
    DrI w q p pa AA F B top L wv fv ws gs fs x sv iv c g W' := by
  have hn : NoCells W row := fun r e => (hr r e).2
  obtain ⟨Sa1, AA1, F1, gv, hv, k1, k2, k3, k4, k5, k6, k7, k8, k9, k10, k11, k12, k13⟩ := h.ex
  refine ⟨⟨Sa1, AA1, F1, gv, hv, k1.kept hg hn, fun k o hk ho => ?_, k3.kept hg hn, k4.kept hg hn, k5, k6, k7, k8, k9, k10, k11.kept hg (not_cells k11 hn), owns_not_cells k12 hg hn, k13⟩, h.bs.kept hg (not_cells h.bs hn), h.b1.kept hg (not_cells h.b1 hn), h.b2.kept hg (not_cells h.b2 hn), Fr.grown h.fr hg (fun k e hl => by have := (hr k e).1; omega), Nat.le_trans h.sz hg.size⟩
  have hlt := k1.ar.lt k hk
  cases ho0 : W.heap[k]? with
  | none =>
    have := Array.getElem?_eq_none_iff.1 ho0
    omega
  | some o0 =>
    have hc := k2 k o0 hk ho0
    have : W'.heap[k]? = some o0 := (hg.block k hlt (fun e => by
      obtain ⟨o2, h2, h3⟩ := hn k e.symm
      rw [ho0] at h2
      cases h2
      rw [hc] at h3
      cases h3)).trans ho0
    rw [this] at ho
    cases ho
    exact hc
theorem DrI.gd {w : World} {q p pa : Nat} {AA : Ar} {F : Nat → Lab} {B : Int → Nat} {top : Int} {L : HL} {wv fv : Value} {ws gs fs : List Int} {x : Ob} {sv iv : Value} {c : Int} {pre : List (Int × Nat)} {W : World} (h : DrI w q p pa AA F B top L wv fv ws gs fs x sv iv c (hds pre) W) (hi : HIn top L) (hx : x ∈ L) :
    GdP (w.heap.size + 2) (w.heap.size + 3) p (B x.h) x.h iv x.inners B pre W := by
  obtain ⟨Sa1, AA1, F1, gv, hv, k1, k2, k3, k4, k5, k6, k7, k8, k9, k10, k11, k12, k13⟩ := h.ex
  refine ⟨h.b1.cell, h.b2.cell, k4.c3, k4.hi, fun y hy => ?_⟩
  obtain ⟨e1, e2, e3⟩ := parts_next (List.nodup_cons.2 ⟨hi.self hx, hi.idp x hx⟩) rfl hy
  obtain ⟨o, ho, he⟩ : ∃ o ∈ L, o.h = y.1 := by
    rcases List.mem_cons.1 e2 with e | e
    · exact ⟨x, hx, e.symm⟩
    · obtain ⟨o, ho, h4, _⟩ := hi.inn x hx _ e
      exact ⟨o, ho, h4⟩
  have hf := find_some k1 (o := o) (List.mem_filter.2 ⟨ho, by simp only [Bool.not_eq_true', List.contains_eq_mem, decide_eq_false_iff_not]; rw [he]; exact e3⟩)
  rw [he, ← e1] at hf
  exact hf
def DropPost (w : World) (q p pa : Nat) (AA : Ar) (F : Nat → Lab) (B : Int → Nat) (top : Int) (L : HL) (wv fv : Value) (ws gs fs : List Int) (x : Ob) (e : Ending) (w' : World) : Prop :=
  ∃ vh, e = .returned vh ∧ ∃ Sa1 AA1 F1 gv, HpW w' p pa Sa1 AA1 F1 B top (awa L x.h).1 ∧ SwW w' q p F1 wv gv fv ws (gs ++ x.h :: x.inners) fs ∧ DrR (er AA) (x.h :: x.inners) (er AA1) ∧
    w'.ownsRow 0 67 2 vh (awa L x.h).2.1.length (lkv (awa L x.h).2.1) ∧ (∀ k, vh.ownBlock = some k → F1 k = outL) ∧ (∀ k, k < w.heap.size → F1 k = F k) ∧ FrF F w w'
section
variable {w : World} {q p pa : Nat} {Sa : Nat → Prop} {AA : Ar} {F : Nat → Lab} {B : Int → Nat} {top : Int} {L : HL} {wv gv fv : Value} {ws gs fs : List Int}
set_option maxRecDepth 100000 in
set_option maxHeartbeats 4000000 in
theorem drop_in (n : Nat) (hn : 3 ≤ n) (h : HpW w p pa Sa AA F B top L) (hs : SwW w q p F wv gv fv ws gs fs) (hi : HIn top L) {x : Ob} (hx : x ∈ L) (hx0 : x.outer = 0) (hg : gs.length + 1 + x.inners.length ≤ 1000000) (hF : ∀ k, w.heap.size ≤ k → F k = outL) :
    CallsIn Fence.wide n Try.prog 67 #[.pointer (some ⟨q, 0, none⟩), .int .u64 x.h] w (DropPost w q p pa AA F B top L wv fv ws gs fs x) := by
  have h1 : 1 ≤ n := by omega
  obtain ⟨sv, iv, c, hbx⟩ := h.ob x hx
  obtain ⟨w1, hw1⟩ : ∃ w1, w1 = (w.alloc (.cells #[.pointer (some ⟨q, 0, none⟩)] 143)).alloc (.cells #[.slice none 0 0] 77) := ⟨_, rfl⟩
  have cq0 := hs.c0
  have hql := hs.lt
  have d0 : w1.cell? ⟨w.heap.size, 0, none⟩ = some (.pointer (some ⟨q, 0, none⟩)) := by
    rw [hw1, World.cell?_of_block (Below.heap_alloc _ _ _ (by simp)), cell_of_row _ _ 0 _ _ _ (heap_alloc_new _ _)]; rfl
  have d1 : w1.cell? ⟨q, 0, none⟩ = some (.pointer (some ⟨p, 0, none⟩)) := by
    rw [hw1, World.cell?_of_block (Below.heap_alloc _ _ _ (by simp; omega)), World.cell?_of_block (Below.heap_alloc _ _ _ hql)]; exact cq0
  have hsz1 : w1.heap.size = w.heap.size + 2 := by rw [hw1]; simp
  have HW1 := hid hw1
  have H := hid h
  have HS := hid hs
  have HI := hid hi
  have HX := hid hx
  have HX0 := hid hx0
  have HG := hid hg
  have HF := hid hF
  have HBX := hid hbx
  have HZ1 := hid hsz1
  clear h hs hi hx hx0 hg hF hbx cq0 hw1 hsz1
  generalize hxh : x.h = xh at *
  have HXH := hid hxh
  clear hxh
  refine callsIn_of_wp_marks Try.func67 rfl trivial ?_ rfl
  simp only [Try.ntmps67, List.size_toArray, List.length_cons, List.length_nil, Nat.reduceAdd, Nat.reduceSub, Array.replicate_succ, Array.replicate_zero, List.push_toArray, List.append_toArray, List.nil_append, List.cons_append]
  gi_upto_region 2 with (fail)
  rw [← HW1.out]
  gi_wp2
  refine ⟨trivial, (callsIn_wide.2 (parts_any w1 p xh)).mono ?_⟩
  rintro e w2 ⟨rfl, hw2⟩
  have hz2 : w2.heap.size = w.heap.size + 4 := by rw [hw2]; simp; have := HZ1.out; omega
  have hbelow : Below w.heap.size w w2 := by
    rw [hw2, HW1.out]
    exact ((((Below.refl _ _).alloc (Nat.le_refl _) _).alloc (by simp) _).alloc (by simp; omega) _).alloc (by simp; omega) _
  have e1 : w1.heap.size = w.heap.size + 2 := HZ1.out
  rw [show w1.heap.size + 1 = w.heap.size + 3 by omega, e1]
  have hbs : Boxed w2 w.heap.size 143 (.pointer (some ⟨q, 0, none⟩)) := by
    have b0 := ((Boxed.new w 143 (.pointer (some ⟨q, 0, none⟩))).alloc (.cells #[.slice none 0 0] 77))
    rw [← HW1.out] at b0
    rw [hw2]
    exact (b0.alloc _).alloc _
  have hbh : Boxed w2 (w.heap.size + 1) 77 (.slice none 0 0) := by
    have b0 := Boxed.new (w.alloc (.cells #[.pointer (some ⟨q, 0, none⟩)] 143)) 77 (.slice none 0 0)
    rw [← HW1.out] at b0
    simp only [World.size_alloc] at b0
    rw [hw2]
    exact (b0.alloc _).alloc _
  have hb1 : Boxed w2 (w.heap.size + 2) 24 (.pointer (some ⟨p, 0, none⟩)) := by
    have b0 := (Boxed.new w1 24 (.pointer (some ⟨p, 0, none⟩))).alloc (.cells #[.int .u64 xh] 34)
    rw [← hw2, e1] at b0
    exact b0
  have hb2 : Boxed w2 (w.heap.size + 3) 34 (.int .u64 xh) := by
    have b0 := Boxed.new (w1.alloc (.cells #[.pointer (some ⟨p, 0, none⟩)] 24)) 34 (.int .u64 xh)
    rw [← hw2] at b0
    simp only [World.size_alloc, e1] at b0
    exact b0
  have hfr2 : Fr (fun _ => False) w w2 := Fr.of_below hbelow
  obtain ⟨Sx, hSx, hax, hcx⟩ := H.out.ar.exact
  have hDI : DrI w q p pa AA F B top L wv fv ws gs fs x sv iv c [] w2 := by
    refine ⟨⟨Sx, AA, F, gv, .slice none 0 0, ?_, ?_, ?_, ?_, .nil _, fun _ _ => rfl, HF.out _ (Nat.le_refl _), HF.out _ (by omega), HF.out _ (by omega), HF.out _ (by omega), hbh, World.ownsRow_nil _ _ _ _, fun k hk => by simp [Value.ownBlock] at hk⟩, hbs, hb1, by rw [HXH.out]; exact hb2, Fr.of_below hbelow, by omega⟩
    · have hw : HpW w p pa Sx AA F B top L := ⟨H.out.hp, hax, fun k hk => H.out.fa k (hSx k hk), H.out.fp, H.out.ob, H.out.pl, H.out.co⟩
      have := hw.fr hfr2 (fun e => e) (fun _ _ e => e) (fun _ _ _ _ _ e => e) (fun _ _ => rfl)
      rw [List.filter_eq_self.2 (by simp)]
      exact this
    · intro k o hk ho
      rw [hbelow.block k (hax.lt k hk)] at ho
      exact hcx k o hk ho
    · rw [List.append_nil]
      exact HS.out.fr hfr2 (fun _ _ _ e => e) (fun _ _ => rfl)
    · rw [HXH.out]
      exact HBX.out.fr hfr2 (fun _ _ _ e => e) (fun _ _ => rfl)
  have HDI := hid hDI
  have HZ2 := hid hz2
  have HBEL := hid hbelow
  clear hDI hz2 hbelow hbs hbh hb1 hb2 hfr2 hax hcx hSx e1 hw2 d0 d1
  obtain ⟨bS, hbS⟩ : ∃ bS, bS = w.heap.size := ⟨_, rfl⟩
  rw [← hbS] at HZ2 ⊢
  have HBS := hid hbS
  clear hbS
  gi_wp2
  refine rangeFunc_x rfl h1 (gf := 73) (lb := #[.pointer (some ⟨bS + 2, 0, none⟩), .pointer (some ⟨bS + 3, 0, none⟩)]) rfl trivial (enters_of Try.func73 (by kernel_rfl) rfl)
    (parts_it (n - 1) w2 (bS + 2) (bS + 3) p (B xh) xh iv x.inners B (by have := HG.out; omega)) (fun _ W W' e => by subst e; exact Below.refl _ _) (fun _ {A B C} _ _ => trivial) (fun _ _ _ _ _ _ _ _ _ => trivial) (fun _ => rfl)
    (fun (_ : Unit) pre W => DrI w q p pa AA F B top L wv fv ws gs fs x sv iv c (hds pre) W) (fun _ _ _ => False)
    (fun _ pre W W' row hs hg hr => hs.kept hg (fun r e => ⟨by have := (hr r e).1; have := HZ2.out; have := HBS.out; omega, (hr r e).2⟩)) (fun _ _ _ _ _ hs _ _ => hs) ?gd ?g0 ?h0
    (fun (_ : Unit) pre y a' W => DrI w q p pa AA F B top L wv fv ws gs fs x sv iv c (hds pre) W ∧ a' = { tmps := #[.pointer (some ⟨q, 0, none⟩), .int .u64 xh, .pointer (some ⟨bS, 0, none⟩), undef, .slice none 0 0, .pointer (some ⟨bS + 1, 0, none⟩), .int .u64 y.1, .pointer (some ⟨y.2, 0, none⟩), .pointer (some ⟨q, 0, none⟩), .pointer (some ⟨q, 0, none⟩), .pointer (some ⟨q, 0, none⟩), .pointer (some ⟨p, 0, none⟩), .int .u64 xh, .func (.func 73) #[] #[.pointer (some ⟨bS + 2, 0, none⟩), .pointer (some ⟨bS + 3, 0, none⟩)], .int .u64 y.1, .pointer (some ⟨y.2, 0, none⟩), undef, undef, undef, undef, undef, undef, undef, undef, undef, undef, undef, undef, undef, undef, undef, undef, undef, undef, undef, undef, undef, undef, undef, undef, undef, undef], defers := [] })
    (fun _ pre y a' _ W W' row hs hg hr => ⟨hs.1.kept hg (fun r e => ⟨by have := (hr r e).1; have := HZ2.out; have := HBS.out; omega, (hr r e).2⟩), hs.2⟩)
    ?assign ?body ?done ?stop
  case gd =>
    intro _ pre W hd
    have := hd.gd HI.out HX.out
    rw [HXH.out, ← HBS.out] at this
    exact this
  case g0 =>
    intro W hb
    have := (HDI.out.kept (grown_of_below hb) (fun r e => by cases e)).gd (pre := []) HI.out HX.out
    rw [HXH.out, ← HBS.out] at this
    exact this
  case h0 =>
    rintro _ W1 W hb _ rfl
    exact HDI.out.kept (grown_of_below hb) (fun r e => by cases e)
  case assign =>
    rintro lo _ pre y Wc K hI _ hK
    simp only [encO]
    have HKK := hid hK
    have HII := hid hI
    clear hK hI
    gi_wp2
    exact HKK.out _ _ (KeepsFrom.refl _ _) trivial ⟨HII.out, rfl⟩
  case body =>
    rintro lo _ pre y a' W hlo ⟨r, hr⟩ hpx ⟨hDW, rfl⟩
    obtain ⟨e1, e2, e3⟩ := parts_next (List.nodup_cons.2 ⟨HI.out.self HX.out, HI.out.idp x HX.out⟩) rfl (by rw [HXH.out]; exact hpx)
    obtain ⟨yh, yb⟩ := y
    simp only at e1 e2 e3
    subst e1
    obtain ⟨o, ho, he⟩ : ∃ o ∈ L, o.h = yh := by
      rcases List.mem_cons.1 e2 with e | e
      · exact ⟨x, HX.out, e.symm⟩
      · obtain ⟨o, ho, h4, _⟩ := HI.out.inn x HX.out _ e
        exact ⟨o, ho, h4⟩
    obtain ⟨Sa1, AA1, F1, gv1, hv1, k1, k2, k3, k4, k5, k6, k7, k8, k9, k10, k11, k12, k13⟩ := hDW.ex
    have hoL : o ∈ L.filter fun o => !((hds pre).contains o.h) := List.mem_filter.2 ⟨ho, by simp only [Bool.not_eq_true', List.contains_eq_mem, decide_eq_false_iff_not]; rw [he]; exact e3⟩
    obtain ⟨i, sp, f1, f2, f3, f4⟩ := k1.pl o hoL
    rw [he] at f3
    have hfound : Found AA1 yh i sp := ⟨f1, f2, f3⟩
    have HDR := hid (Drop_any Sa1 W pa AA1 i sp yh k1.ar hfound)
    obtain ⟨so, io, co, hob⟩ := k1.ob o hoL
    rw [he] at hob
    have d0 := hDW.bs.cell
    rw [← HBS.out] at d0
    have d1 := k3.c0
    have d2 := k1.c0
    have K1 := hid k1
    have K2 := hid k2
    have K3 := hid k3
    have K4 := hid k4
    have K5 := hid k5
    have K6 := hid k6
    have K7 := hid k7
    have K8 := hid k8
    have K9 := hid k9
    have K10 := hid k10
    have K11 := hid k11
    have K12 := hid k12
    have K13 := hid k13
    have HDW := hid hDW
    have HOB := hid hob
    have HFO := hid hfound
    have HE := hid he
    have HO := hid ho
    have HPX := hid hpx
    have HE3 := hid e3
    have HE2 := hid e2
    have HOL := hid hoL
    clear k1 k2 k3 k4 k5 k6 k7 k8 k9 k10 k11 k12 k13 hDW hob hfound f1 f2 f3 f4 ho he hpx e3 e2 hoL hr hlo
    gi_wp2
    refine ⟨trivial, (fun h => by cases h), (CallsIn.inRound lo (callsIn_wide.2 HDR.out)).mono ?_⟩
    rintro e W2 ⟨⟨v, rfl⟩, ha2, hf2⟩
    -- the arena's blocks alone
    obtain ⟨S2, hS2, ha2, hc2⟩ := ha2.exact
    have h2 := K1.out.drop HFO.out ha2 (fun k hk => by
      rcases hS2 k hk with e | e
      · exact .inl e
      · exact .inr e.1) hf2
    have nosa : ∀ k l j, F1 k = (l, j) → l ≠ 0 → ¬ Sa1 k := fun k l j e hl hk => by
      rw [K1.out.fa k hk] at e
      exact hl (congrArg Prod.fst e).symm
    have hzx := (H.out.bd HX.out).1
    have hzo := (H.out.bd HO.out).1
    rw [HE.out] at hzo
    have hlo2 : ∀ k, k < W.heap.size → nw F1 W.heap.size (0, 0) k = F1 k := fun k hk => nw_lt hk
    have hs2 := K3.out.fr (F' := nw F1 W.heap.size (0, 0)) hf2 (fun k j e => nosa k _ j e (by omega)) hlo2
    have hx2 := K4.out.fr (F' := nw F1 W.heap.size (0, 0)) hf2 (fun k j e => nosa k _ j e (by omega)) hlo2
    have ho2 := HOB.out.fr (F' := nw F1 W.heap.size (0, 0)) hf2 (fun k j e => nosa k _ j e (by have := HE.out; omega)) hlo2
    have hbox : ∀ {b : Nat} {t : TypeId} {u : Value}, Boxed W b t u → F1 b = outL → Boxed W2 b t u := fun hb hl => (hf2.block _ hb.lt (nosa _ (-100) 0 hl (by omega))).trans hb
    have hbs2 := hbox HDW.out.bs K7.out
    have hbh2 := hbox K11.out K8.out
    have hb12 := hbox HDW.out.b1 K9.out
    have hb22 := hbox HDW.out.b2 K10.out
    have hrow2 := hf2.owns K12.out (fun k hk => nosa k (-100) 0 (K13.out k hk) (by omega))
    have hsz2 := hf2.size
    have hko2 : KeepsOthers W W2 := KeepsOthers.of_fr hf2 K2.out
    have hdr2 : DrR (er AA) (hds pre ++ [yh]) (er (dropAt AA1 i sp)) := drr_more K5.out (by rw [er_drop]; exact .cons (er_found HFO.out) (.nil _))
    have hfrW2 : FrF F w W2 := FrF.trans HDW.out.fr (hf2.mono (fp2 := fun k => F1 k ≠ outL) (fun k hk _ => by rw [K1.out.fa k hk]; simp [outL])) K6.out
    obtain ⟨F2, hF2⟩ : ∃ F2, F2 = nw F1 W.heap.size (0, 0) := ⟨_, rfl⟩
    rw [← hF2] at h2 hs2 hx2 ho2
    have hag2 : ∀ k, k < W.heap.size → F2 k = F1 k := fun k hk => by rw [hF2]; exact nw_lt hk
    have hsd := HDW.out.sz
    have l0 : F2 bS = outL := by rw [hag2 _ (by have := HBS.out; omega), HBS.out]; exact K7.out
    have l1 : F2 (bS + 1) = outL := by rw [hag2 _ (by have := HBS.out; omega), HBS.out]; exact K8.out
    have l2 : F2 (bS + 2) = outL := by rw [hag2 _ (by have := HBS.out; omega), HBS.out]; exact K9.out
    have l3 : F2 (bS + 3) = outL := by rw [hag2 _ (by have := HBS.out; omega), HBS.out]; exact K10.out
    have lh : ∀ k, hv1.ownBlock = some k → F2 k = outL := fun k hk => by rw [hag2 k (K12.out.lt k hk).2]; exact K13.out k hk
    have hag : ∀ k, k < w.heap.size → F2 k = F k := fun k hk => by rw [hag2 k (by omega)]; exact K6.out k hk
    rw [← HBS.out] at hbs2 hbh2 hb12 hb22
    -- what the two appends need
    have c0 := hbs2.cell
    have c1 := hs2.c2
    have z1 := hs2.fz 2
    have c2 := hbh2.cell
    have z2 := hbh2.frozen
    have c3 := ho2.c0
    have hq2 := hs2.lt
    have hn1 : gv1.ownBlock ≠ some q := fun e => by have := hs2.lg _ e; rw [hs2.lq] at this; cases this
    have hn2 : gv1.ownBlock ≠ some bS := fun e => by have := hs2.lg _ e; rw [l0] at this; cases this
    have hn3 : gv1.ownBlock ≠ some (bS + 1) := fun e => by have := hs2.lg _ e; rw [l1] at this; cases this
    have hqb : q ≠ bS := fun e => by have := hs2.lq; rw [e, l0] at this; cases this
    have hqh : q ≠ bS + 1 := fun e => by have := hs2.lq; rw [e, l1] at this; cases this
    have hqy : q ≠ B yh := fun e => by
      have := hs2.lq
      have h3 := ho2.fb
      rw [HE.out] at h3
      rw [e, h3] at this
      have := congrArg Prod.fst this
      simp at this
      omega
    have hny : gv1.ownBlock ≠ some (B yh) := fun e => by
      have := hs2.lg _ e
      have h3 := ho2.fb
      rw [h3, HE.out] at this
      have := congrArg Prod.fst this
      simp at this
      omega
    have hgr := hs2.hg
    obtain ⟨ga, gc, rfl⟩ := own_form hgr
    obtain ⟨sa, sc, rfl⟩ := own_form ho2.hs
    obtain ⟨hA, hC, rfl⟩ := own_form hrow2
    obtain ⟨j0, hj0, hz0, hz1, hz2⟩ := info_parts infoU0
    obtain ⟨j1, hj1, hy0, hy1, hy2⟩ := info_parts infoLkB
    have glen : (gs ++ hds pre).length ≤ 1000000 := by
      have h5 := HPX.out.length_le
      have h6 := HG.out
      simp [partsL, hds] at h5 ⊢
      omega
    generalize hgn : (gs ++ hds pre).length = N at *
    have bSl : bS < W2.heap.size := hbs2.lt
    have bHl : bS + 1 < W2.heap.size := hbh2.lt
    have yl : B yh < W2.heap.size := ho2.lt
    have J0 := hid hj0
    have Z0 := hid hz0
    have Z1 := hid hz1
    have Z2 := hid hz2
    have J1 := hid hj1
    have Y0 := hid hy0
    have Y1 := hid hy1
    have Y2 := hid hy2
    have H2 := hid h2
    have HS2 := hid hs2
    have HX2 := hid hx2
    have HO2 := hid ho2
    have HB12 := hid hb12
    have HB22 := hid hb22
    have HBS2 := hid hbs2
    have HBH2 := hid hbh2
    have HROW2 := hid hrow2
    have HKO2 := hid hko2
    have HDR2 := hid hdr2
    have HFRW := hid hfrW2
    have HL0 := hid l0
    have HL1 := hid l1
    have HL2 := hid l2
    have HL3 := hid l3
    have HLH := hid lh
    have HAG := hid hag
    have HC2 := hid hc2
    have HGR := hid hgr
    have HGN := hid hgn
    have HN1 := hid hn1
    have HN2 := hid hn2
    have HN3 := hid hn3
    have HNY := hid hny
    have HSD := hid hsd
    have HSZ2 := hid hsz2
    have HZO := hid hzo
    clear hj0 hz0 hz1 hz2 hj1 hy0 hy1 hy2 h2 hs2 hx2 ho2 hb12 hb22 hbs2 hbh2 hrow2 hko2 hdr2 hfrW2 l0 l1 l2 l3 lh hag hag2 hc2 hgr hgn hn1 hn2 hn3 hny hsd hsz2 hF2 hlo2 nosa hbox hS2 ha2 hf2 hzx hzo HDR d0 d1 d2
    gi_wp2
    refine R.wp_region_mix [1, 1, 0, 0, 1, 0, 2, 2, 0, 0, 3] (fun W' => W'.cell? ⟨bS, 0, none⟩ = some (.pointer (some ⟨q, 0, none⟩)) ∧ W'.cell? ⟨q, 2, none⟩ = some (.slice ga N gc)) (by kernel_rfl) (by kernel_rfl) ⟨by simpa using c0, by simpa using c1⟩ ?_
    repeat (first
      | (refine' E.wpMix_value _ rfl rfl _ _; rotate_left; (solve | (intro W; go_simp) | (intro W; go_simp; with_reducible rfl)); simp only [Act.put, List.setIfInBounds_toArray, List.set_cons_zero, List.set_cons_succ])
      | (refine' E.wpMix_read _ rfl rfl _ _; rotate_left; (solve | (rintro W ⟨h1, h2⟩; go_simp) | (rintro W ⟨h1, h2⟩; go_simp; with_reducible rfl)); simp only [Act.put, List.setIfInBounds_toArray, List.set_cons_zero, List.set_cons_succ]))
    obtain ⟨Wd, hWd⟩ : ∃ Wd, Wd = W2.drew := ⟨_, rfl⟩
    rw [← hWd]
    have hd1 : Wd.heap = W2.heap := by rw [hWd]; rfl
    have d0 : Wd.cell? ⟨bS, 0, none⟩ = some (.pointer (some ⟨q, 0, none⟩)) := by rw [hWd]; simpa using c0
    have d1 : Wd.cell? ⟨q, 2, none⟩ = some (.slice ga N gc) := by rw [hWd]; simpa using c1
    have hqd : q < Wd.heap.size := by rw [hd1]; exact hq2
    have hbd : bS < Wd.heap.size := by rw [hd1]; exact bSl
    have HGRd := hid (show Wd.ownsRow 0 TU 1 (.slice ga N gc) N ((gs ++ hds pre).map u64v) by rw [hWd]; exact HGR.out)
    have HWD := hid hWd
    have HD1 := hid hd1
    clear hWd hd1
    refine E.wpMix_write (.slice (some ⟨Wd.heap.size, 0, none⟩) 1 1) (Wd.alloc (.cells #[.int .u64 yh] TU)) (by decide) rfl ?nrun1 ?nS1 ?nrest1
    case nrun1 => go_simp
    case nS1 => exact fun _ => ⟨by rw [World.cell?_of_block (Below.heap_alloc _ _ _ hbd)]; exact d0, by rw [World.cell?_of_block (Below.heap_alloc _ _ _ hqd)]; exact d1⟩
    simp only [Act.put, List.setIfInBounds_toArray, List.set_cons_zero, List.set_cons_succ]
    refine R.wpMix_append (by decide) rfl (.tmp 29) (.tmp 31) 43 rfl 0 TU j0 (.int .u64 0) 1 8 Try.underlying43 J0.out Z0.out Z1.out Z2.out rfl (by decide) (.slice ga N gc) N _ rfl (HGRd.out.alloc _) ⟨Wd.heap.size, 0, none⟩ 1 1 [.int .u64 yh] rfl rfl (cell_one_new _ _ _) (by simp [Value.oneCell']) (by decide) (by unfold maxLen; omega) (by omega) (Nat.zero_le _) (Wd.heap.size + 1) (by simp) ?_
    intro g3 k3 Wa hown3 hgrow3 hat3 _
    have hbq : Wa.heap[q]? = Wd.heap[q]? := by
      rw [hgrow3.block q (by simp; omega) (fun e => HN1.out e.symm)]; exact Below.heap_alloc _ _ _ hqd
    have hbb : Wa.heap[bS]? = Wd.heap[bS]? := by
      rw [hgrow3.block bS (by simp; omega) (fun e => HN2.out e.symm)]; exact Below.heap_alloc _ _ _ hbd
    have q3 : Wa.cell? ⟨q, 2, none⟩ = some (.slice ga N gc) := (World.cell?_of_block hbq).trans d1
    have z3 : Wa.frozen? ⟨q, 2, none⟩ = false := by rw [World.frozen?_of_block hbq, HWD.out]; exact z1
    have q4 : Wa.cell? ⟨bS, 0, none⟩ = some (.pointer (some ⟨q, 0, none⟩)) := (World.cell?_of_block hbb).trans d0
    refine ⟨fun _ => ⟨q4, q3⟩, ?_⟩
    have hfr3 : Fr (fun k => k = q ∨ (Value.slice ga N gc).ownBlock = some k) W2 (Wa.setCell ⟨q, 2, none⟩ (.slice (some ⟨g3, 0, none⟩) (N + 1) k3)) := by
      have h0 : Fr (fun k => k = q ∨ (Value.slice ga N gc).ownBlock = some k) W2 Wd := by rw [HWD.out]; exact (Fr.refl _ _).drew
      exact ((h0.alloc _).grown hgrow3 (fun k hk _ => .inr hk)).setCell _ _ (fun _ => .inl rfl)
    have hq3 : (Wa.setCell ⟨q, 2, none⟩ (.slice (some ⟨g3, 0, none⟩) (N + 1) k3)).heap[q]? = some (.cells #[.pointer (some ⟨p, 0, none⟩), wv, .slice (some ⟨g3, 0, none⟩) (N + 1) k3, fv] 118 (0, 0)) := by
      have h4 := HS2.out.hq
      rw [← HD1.out, ← hbq] at h4
      rw [heap_setCell_same _ _ _ _ _ _ h4]; rfl
    have hs3 := HS2.out.pushg (h := yh) hfr3 hq3 (by
      have h4 := hown3
      rw [List.length_append, List.map_append, HGN.out]
      refine ownsRow_setCell_other h4 (fun e => ?_) _
      simp [Value.ownBlock] at e
      rcases hat3 with e2 | e2
      · rw [e] at e2; exact HN1.out e2
      · omega) (fun k hk => by
        simp [Value.ownBlock] at hk
        subst hk
        rcases hat3 with e2 | e2
        · exact .inl e2
        · right; have := congrArg Array.size HD1.out; omega)
    have hl3 : ∀ k, (k = q ∨ (Value.slice ga N gc).ownBlock = some k) → (F2 k).1 ≤ -2 ∧ F2 k ≠ outL := fun k hk => by
      rcases hk with rfl | hk
      · rw [HS2.out.lq]; simp [outL]
      · rw [HS2.out.lg k hk]; simp [outL]
    have h3 := H2.out.low hfr3 (fun k hk => (hl3 k hk).1) (fun k hk => nw_lt (l := (-2, 2)) hk)
    have hx3 := HX2.out.fr (F' := nw F2 W2.heap.size (-2, 2)) hfr3 (fun k j e => lab_low (fun k hk => (hl3 k hk).1) e (by have := (H.out.bd HX.out).1; omega)) (fun k hk => nw_lt hk)
    have ho3 := HO2.out.fr (F' := nw F2 W2.heap.size (-2, 2)) hfr3 (fun k j e => lab_low (fun k hk => (hl3 k hk).1) e (by have := HZO.out; have := HE.out; omega)) (fun k hk => nw_lt hk)
    have hbox3 : ∀ {b : Nat} {t : TypeId} {u : Value}, Boxed W2 b t u → F2 b = outL → Boxed (Wa.setCell ⟨q, 2, none⟩ (.slice (some ⟨g3, 0, none⟩) (N + 1) k3)) b t u := fun hb hl => (hfr3.block _ hb.lt (fun e => (hl3 _ e).2 hl)).trans hb
    have hbs3 := hbox3 HBS2.out HL0.out
    have hbh3 := hbox3 HBH2.out HL1.out
    have hb13 := hbox3 HB12.out HL2.out
    have hb23 := hbox3 HB22.out HL3.out
    have hrow3 := hfr3.owns HROW2.out (fun k hk e => (hl3 k e).2 (HLH.out k hk))
    have hca3 : ∀ k o, S2 k → (Wa.setCell ⟨q, 2, none⟩ (.slice (some ⟨g3, 0, none⟩) (N + 1) k3)).heap[k]? = some o → o.isCells = true := fun k o hk hoo => by
      refine HC2.out k o hk ?_
      rw [← hoo]
      exact (hfr3.block k (H2.out.ar.lt k hk) (fun e => by have := (hl3 k e).1; rw [H2.out.fa k hk] at this; simp at this)).symm
    have hko3 : KeepsOthers W2 (Wa.setCell ⟨q, 2, none⟩ (.slice (some ⟨g3, 0, none⟩) (N + 1) k3)) := KeepsOthers.of_fr hfr3 (fun k o hk hoo => by
      rcases hk with rfl | hk
      · rw [HS2.out.hq] at hoo; cases hoo; rfl
      · exact own_cells HGR.out hk hoo)
    have hff3 : FrF F w (Wa.setCell ⟨q, 2, none⟩ (.slice (some ⟨g3, 0, none⟩) (N + 1) k3)) := FrF.trans HFRW.out (hfr3.mono (fp2 := fun k => F2 k ≠ outL) (fun k hk _ => (hl3 k hk).2)) HAG.out
    simp only [Act.put, List.setIfInBounds_toArray, List.set_cons_zero, List.set_cons_succ]
    repeat (first
      | (refine' E.wpMix_value _ rfl rfl _ _; rotate_left; (solve | (intro W; go_simp) | (intro W; go_simp; with_reducible rfl)); simp only [Act.put, List.setIfInBounds_toArray, List.set_cons_zero, List.set_cons_succ]))
    refine E.wpMix_skip (Wa.setCell ⟨q, 2, none⟩ (.slice (some ⟨g3, 0, none⟩) (N + 1) k3)) (by decide) rfl ?nrun2 (fun h => by cases h) ?nrest2
    case nrun2 => go_simp
    simp only [Act.put]
    refine E.wpMix_end ?_
    obtain ⟨W3, hW3⟩ : ∃ W3, W3 = Wa.setCell ⟨q, 2, none⟩ (.slice (some ⟨g3, 0, none⟩) (N + 1) k3) := ⟨_, rfl⟩
    rw [← hW3] at h3 hs3 hx3 ho3 hbs3 hbh3 hb13 hb23 hrow3 hca3 hko3 hff3 hfr3 ⊢
    obtain ⟨F3, hF3⟩ : ∃ F3, F3 = nw F2 W2.heap.size (-2, 2) := ⟨_, rfl⟩
    rw [← hF3] at h3 hs3 hx3 ho3
    have hag3 : ∀ k, k < W2.heap.size → F3 k = F2 k := fun k hk => by rw [hF3]; exact nw_lt hk
    have hsz3 := hfr3.size
    have l0 : F3 bS = outL := (hag3 _ bSl).trans HL0.out
    have l1 : F3 (bS + 1) = outL := (hag3 _ bHl).trans HL1.out
    have l2 : F3 (bS + 2) = outL := (hag3 _ HB12.out.lt).trans HL2.out
    have l3 : F3 (bS + 3) = outL := (hag3 _ HB22.out.lt).trans HL3.out
    have lh : ∀ k, (Value.slice hA (List.flatMap (linksOf L) (hds pre)).length hC).ownBlock = some k → F3 k = outL := fun k hk => (hag3 k (HROW2.out.lt k hk).2).trans (HLH.out k hk)
    have hag : ∀ k, k < w.heap.size → F3 k = F k := fun k hk => (hag3 k (by have := HSD.out; have := HSZ2.out; omega)).trans (HAG.out k hk)
    have hsd : w.heap.size + 4 ≤ W3.heap.size := by have := HSD.out; have := HSZ2.out; omega
    have e2 := hbh3.cell
    have e3 := hbh3.frozen
    have e4 := ho3.c0
    have hbl3 : bS + 1 < W3.heap.size := hbh3.lt
    have yl3 : B yh < W3.heap.size := ho3.lt
    have hnh1 : (Value.slice hA (List.flatMap (linksOf L) (hds pre)).length hC).ownBlock ≠ some (bS + 1) := fun e => (hbh3.not_row (by decide) hrow3) e.symm
    have hnh2 : (Value.slice hA (List.flatMap (linksOf L) (hds pre)).length hC).ownBlock ≠ some (B yh) := fun e => by
      have h5 := lh _ e
      have h6 := ho3.fb
      rw [h6, HE.out] at h5
      have := congrArg Prod.fst h5
      simp [outL] at this
      have := HZO.out
      omega
    have hlinks : linksOf L yh = o.links := by
      unfold linksOf
      have := fnd_mem HI.out.nd HO.out
      rw [HE.out] at this
      rw [this]
    have hP : (List.flatMap (linksOf L) (hds pre)).length ≤ 16000000 := by
      have h5 := links_len8 HI.out (hds pre)
      simp only [List.length_append] at HGN
      have h6 := HGN.out
      omega
    have hlk8 := (HI.out.lnk o HO.out).1
    have hss := ho3.hs
    generalize hPn : (List.flatMap (linksOf L) (hds pre)).length = M at *
    generalize hmn : o.links.length = m at *
    have H3 := hid h3
    have HS3 := hid hs3
    have HX3 := hid hx3
    have HO3 := hid ho3
    have HBS3 := hid hbs3
    have HBH3 := hid hbh3
    have HB13 := hid hb13
    have HB23 := hid hb23
    have HROW3 := hid hrow3
    have HCA3 := hid hca3
    have HKO3 := hid hko3
    have HFF3 := hid hff3
    have HL0' := hid l0
    have HL1' := hid l1
    have HL2' := hid l2
    have HL3' := hid l3
    have HLH' := hid lh
    have HAG' := hid hag
    have HSD' := hid hsd
    have HNH1 := hid hnh1
    have HNH2 := hid hnh2
    have HLN := hid hlinks
    have HPN := hid hPn
    have HMN := hid hmn
    have HSS := hid hss
    clear h3 hs3 hx3 ho3 hbs3 hbh3 hb13 hb23 hrow3 hca3 hko3 hff3 l0 l1 l2 l3 lh hag hag3 hsd hnh1 hnh2 hlinks hPn hmn hss hW3 hF3 hl3 hbox3 hq3 hown3 hgrow3 hat3 hbq hbb q3 z3 q4 d0 d1 c0 c1 z1 c2 z2 c3 hfr3
    gi_wp2
    refine R.wp_region_mix [1, 0, 0, 0, 1, 2, 3] (fun W' => W'.cell? ⟨bS + 1, 0, none⟩ = some (.slice hA M hC) ∧ W'.cell? ⟨B yh, 0, none⟩ = some (.slice sa m sc)) (by kernel_rfl) (by kernel_rfl) ⟨by simpa using e2, by simpa using e4⟩ ?_
    repeat (first
      | (refine' E.wpMix_value _ rfl rfl _ _; rotate_left; (solve | (intro W; go_simp) | (intro W; go_simp; with_reducible rfl)); simp only [Act.put, List.setIfInBounds_toArray, List.set_cons_zero, List.set_cons_succ])
      | (refine' E.wpMix_read _ rfl rfl _ _; rotate_left; (solve | (rintro W ⟨h1, h2⟩; go_simp) | (rintro W ⟨h1, h2⟩; go_simp; with_reducible rfl)); simp only [Act.put, List.setIfInBounds_toArray, List.set_cons_zero, List.set_cons_succ]))
    obtain ⟨We, hWe⟩ : ∃ We, We = W3.drew := ⟨_, rfl⟩
    rw [← hWe]
    have he1 : We.heap = W3.heap := by rw [hWe]; rfl
    have d2 : We.cell? ⟨bS + 1, 0, none⟩ = some (.slice hA M hC) := by rw [hWe]; simpa using e2
    have d4 : We.cell? ⟨B yh, 0, none⟩ = some (.slice sa m sc) := by rw [hWe]; simpa using e4
    have hbe : bS + 1 < We.heap.size := by rw [he1]; exact hbl3
    have hye : B yh < We.heap.size := by rw [he1]; exact yl3
    have hsse : We.ownsRow 0 67 2 (.slice sa o.links.length sc) o.links.length (lkv o.links) := by rw [hWe, HMN.out]; exact HSS.out
    have hrwe : We.ownsRow (w.heap.size + 4) 67 2 (.slice hA M hC) M (lkv (List.flatMap (linksOf L) (hds pre))) := by rw [hWe]; exact HROW3.out
    obtain ⟨a5, c5, W5, r1, r2, r3, r4⟩ := append_links (t := 77) (ty := 77) Try.underlying77 J1.out Y0.out Y1.out Y2.out hrwe hsse (by have := HMN.out; omega) (by rw [he1]; exact HSD'.out)
    rw [HMN.out] at r1 r2 r4
    have hb5 : W5.heap[bS + 1]? = We.heap[bS + 1]? := r3.block _ hbe (fun e => HNH1.out e.symm)
    have hy5 : W5.heap[B yh]? = We.heap[B yh]? := r3.block _ hye (fun e => HNH2.out e.symm)
    have q5 : W5.cell? ⟨bS + 1, 0, none⟩ = some (.slice hA M hC) := (World.cell?_of_block hb5).trans d2
    have z5 : W5.frozen? ⟨bS + 1, 0, none⟩ = false := by rw [World.frozen?_of_block hb5, hWe]; exact e3
    have y5 : W5.cell? ⟨B yh, 0, none⟩ = some (.slice sa m sc) := (World.cell?_of_block hy5).trans d4
    refine E.wpMix_write (.slice a5 (M + m) c5) W5 (by decide) rfl ?nrun3 ?nS3 ?nrest3
    case nrun3 =>
      unfold execOp
      simp only [resolve, invoke, builtin, Sem.run_bind, Sem.run_pure, Result.andThen_ok, List.map_toArray, List.map_cons, List.map_nil]
      simp [Act.eval, r1]
    case nS3 => exact fun _ => ⟨q5, y5⟩
    have hfr4 : Fr (fun k => k = bS + 1 ∨ (Value.slice hA M hC).ownBlock = some k) W3 (W5.setCell ⟨bS + 1, 0, none⟩ (.slice a5 (M + m) c5)) := by
      have h0 : Fr (fun k => k = bS + 1 ∨ (Value.slice hA M hC).ownBlock = some k) W3 We := by rw [hWe]; exact (Fr.refl _ _).drew
      exact (h0.grown r3 (fun k hk _ => .inr hk)).setCell _ _ (fun _ => .inl rfl)
    have hl4 : ∀ k, (k = bS + 1 ∨ (Value.slice hA M hC).ownBlock = some k) → F3 k = outL := fun k hk => by
      rcases hk with rfl | hk
      · exact HL1'.out
      · exact HLH'.out k hk
    have hl4' : ∀ k, (k = bS + 1 ∨ (Value.slice hA M hC).ownBlock = some k) → (F3 k).1 ≤ -2 := fun k hk => by rw [hl4 k hk]; simp [outL]
    have hnb5 : (Value.slice a5 (M + m) c5).ownBlock ≠ some (bS + 1) := fun e => by
      rcases r4 with e2 | e2
      · rw [e] at e2; exact HNH1.out e2.symm
      · rw [e] at e2
        simp only [Option.some.injEq] at e2
        omega
    have hfin : DrI w q p pa AA F B top L wv fv ws gs fs x sv iv c (hds (pre ++ [(yh, B yh)])) (W5.setCell ⟨bS + 1, 0, none⟩ (.slice a5 (M + m) c5)) := by
      have eh : hds (pre ++ [(yh, B yh)]) = hds pre ++ [yh] := by simp [hds]
      rw [eh]
      have ha4 : ∀ k, k < W3.heap.size → nw F3 W3.heap.size outL k = F3 k := fun k hk => nw_lt hk
      have hbx4 : ∀ {b : Nat} {t : TypeId} {u : Value}, Boxed W3 b t u → b ≠ bS + 1 → (Value.slice hA M hC).ownBlock ≠ some b → Boxed (W5.setCell ⟨bS + 1, 0, none⟩ (.slice a5 (M + m) c5)) b t u := fun hb h5 h6 => (hfr4.block _ hb.lt (fun e => by
        rcases e with e | e
        · exact h5 e
        · exact h6 e)).trans hb
      have hnl : ∀ k, (Value.slice hA M hC).ownBlock = some k → w.heap.size + 4 ≤ k := fun k hk => (HROW3.out.lt k hk).1
      have hb0 := HBS.out
      refine ⟨⟨S2, dropAt AA1 i sp, nw F3 W3.heap.size outL, .slice (some ⟨g3, 0, none⟩) (N + 1) k3, .slice a5 (M + m) c5, ?_, ?_, ?_, ?_, HDR2.out, ?_, ?_, ?_, ?_, ?_, ?_, ?_, ?_⟩, ?_, ?_, ?_, ?_, ?_⟩
      · have h5 := H3.out.low hfr4 hl4' ha4
        have e5 : (L.filter fun o => !((hds pre).contains o.h)).filter (fun o => !(o.h == yh)) = L.filter fun o => !((hds pre ++ [yh]).contains o.h) := by
          rw [List.filter_filter]
          refine List.filter_congr fun z _ => ?_
          rw [List.contains_append, List.contains_cons]
          cases (hds pre).contains z.h <;> cases (z.h == yh) <;> rfl
        rw [e5] at h5
        exact h5
      · intro k oo hk hoo
        refine HCA3.out k oo hk ?_
        rw [← hoo]
        exact (hfr4.block k (H3.out.ar.lt k hk) (fun e => by have := hl4 k e; rw [H3.out.fa k hk] at this; simp [outL] at this)).symm
      · have h5 := HS3.out.fr (F' := nw F3 W3.heap.size outL) hfr4 (fun k j e e2 => by have := hl4 k e2; rw [e] at this; simp [outL] at this) ha4
        rw [← List.append_assoc]
        exact h5
      · exact HX3.out.fr hfr4 (fun k j e => lab_low hl4' e (by have := (H.out.bd HX.out).1; omega)) ha4
      · intro k hk
        rw [ha4 k (by have := HSD'.out; omega)]; exact HAG'.out k hk
      · rw [← hb0, ha4 _ HBS3.out.lt]; exact HL0'.out
      · rw [← hb0, ha4 _ hbl3]; exact HL1'.out
      · rw [← hb0, ha4 _ HB13.out.lt]; exact HL2'.out
      · rw [← hb0, ha4 _ HB23.out.lt]; exact HL3'.out
      · have h5 : Boxed W5 (bS + 1) 77 (.slice hA M hC) := by
          have := HBH3.out
          show W5.heap[bS + 1]? = _
          rw [hb5, he1]; exact this
        rw [← hb0]
        exact h5.set _
      · have e6 : (hds pre ++ [yh]).flatMap (linksOf L) = (hds pre).flatMap (linksOf L) ++ o.links := by rw [List.flatMap_append]; simp [HLN.out]
        rw [e6, List.length_append, HPN.out, HMN.out, lkv_app]
        exact ownsRow_setCell_other r2 hnb5 _
      · intro k hk
        by_cases e : k < W3.heap.size
        · rw [ha4 k e]
          rcases r4 with e2 | e2
          · rw [e2] at hk; exact HLH'.out k hk
          · rw [hk, he1] at e2
            simp only [Option.some.injEq] at e2
            omega
        · exact nw_ge (by omega)
      · rw [← hb0]
        exact hbx4 HBS3.out (by omega) (fun e => by have := hnl _ e; omega)
      · rw [← hb0]
        exact hbx4 HB13.out (by omega) (fun e => by have := hnl _ e; omega)
      · have h5 := hbx4 HB23.out (by omega) (fun e => by have := hnl _ e; omega)
        rw [← hb0]
        exact h5
      · refine Fr.trans HFF3.out hfr4 (fun j hj hl => ?_)
        exfalso
        rcases hj with rfl | hj
        · omega
        · have := hnl j hj; omega
      · have := HSD'.out
        have := hfr4.size
        omega
    have hko4 : KeepsOthers W3 (W5.setCell ⟨bS + 1, 0, none⟩ (.slice a5 (M + m) c5)) := KeepsOthers.of_fr hfr4 (fun k oo hk hoo => by
      rcases hk with rfl | hk
      · rw [show W3.heap[bS + 1]? = _ from HBH3.out] at hoo; cases hoo; rfl
      · exact own_cells HROW3.out hk hoo)
    have hko : KeepsOthers W (W5.setCell ⟨bS + 1, 0, none⟩ (.slice a5 (M + m) c5)) := (HKO2.out.trans HKO3.out).trans hko4
    simp only [Act.put, List.setIfInBounds_toArray, List.set_cons_zero, List.set_cons_succ]
    refine E.wpMix_skip (W5.setCell ⟨bS + 1, 0, none⟩ (.slice a5 (M + m) c5)) (by decide) rfl ?nrun4 (fun h => by cases h) ?nrest4
    case nrun4 => go_simp
    simp only [Act.put]
    refine E.wpMix_end ?_
    exact ⟨hko.from _, trivial, hfin⟩
  case done =>
    rintro D _ W hD hDW hK
    obtain ⟨Sa1, AA1, F1, gv1, hv1, k1, k2, k3, k4, k5, k6, k7, k8, k9, k10, k11, k12, k13⟩ := hDW.ex
    have d0 := k11.cell
    rw [← HBS.out] at d0
    obtain ⟨ha, hc, rfl⟩ := own_form k12
    have HDW := hid hDW
    have K1 := hid k1
    have K3 := hid k3
    have K5 := hid k5
    have K6 := hid k6
    have K12 := hid k12
    have K13 := hid k13
    have HK := hid hK
    have HD := hid hD
    clear hDW k1 k2 k3 k4 k5 k6 k7 k8 k9 k10 k11 k12 k13 hK hD
    generalize hlen : (List.flatMap (linksOf L) (hds (partsL xh (B xh) x.inners B))).length = N at *
    have HLEN := hid hlen
    clear hlen
    gi_wp2
    have hK' : W.heap[D]? = some (.deferred (some [])) := HK.out
    refine ⟨by simp, .inl ⟨_, _, rfl, run_takeDeferred hK', ?_⟩⟩
    have hg := grownBy_putObj' W D (.deferred none)
    have hn : NoCells W (some D) := fun r e => by cases e; exact ⟨_, hK', rfl⟩
    have eh : hds (partsL xh (B xh) x.inners B) = x.h :: x.inners := by rw [HXH.out]; exact parts_all _ _ _ _
    rw [eh] at HLEN K1 K3 K5 K12
    have hfx := fnd_mem HI.out.nd HX.out
    have hall := held_all hfx
    refine ⟨.slice ha N hc, ?val, .slice ha N hc, rfl, Sa1, AA1, F1, gv1, ?w1, K3.out.kept hg hn, K5.out, ?w2, K13.out, K6.out, ?w3⟩
    case val => simp [results, Try.f67, go_sem]
    case w1 =>
      have := K1.out.kept hg hn
      rw [awa_some hfx]
      have e2 : (L.filter fun y => !(y.h == x.h || x.inners.contains y.h)) = L.filter fun o => !((x.h :: x.inners).contains o.h) := by
        refine List.filter_congr fun y _ => ?_
        rw [List.contains_cons]
      rw [e2]
      exact this
    case w2 =>
      rw [hall, HLEN.out]
      exact owns_low (owns_not_cells K12.out hg hn) (Nat.zero_le _)
    case w3 => exact Fr.grown HDW.out.fr hg (fun k e hl => by cases e; have := HD.out; have := HZ2.out; have := HBS.out; omega)
  case stop =>
    rintro D c pre W _ _ hf
    exact hf.elim
end
end Go.Proofs.Ytmkajdfajcodjaa
