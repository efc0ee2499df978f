/- HqI HqK in one -/
import Derived.Test.YtmampaglemleoaaHqG
import Derived.Test.YtmampaglemleoaaMemX
import Derived.Test.YtmampaglemleoaaMixG
namespace Go.Proofs.Ytmampaglemleoaa
open Go Go.ChangeShapes Go.WideShapes Go.ChangeAt Go.RowKit Go.Shelf
attribute [local go_sem] Oper.semAt_some

def encO (x : Int × Nat) : Array Value := #[.int .u64 x.1, .pointer (some ⟨x.2, 0, none⟩)]
def partsL (hd : Int) (b : Nat) (l : List Int) (Bf : Int → Nat) : List (Int × Nat) := (hd, b) :: l.map fun h => (h, Bf h)
/-- What it asks of the world between two rounds. -/
structure GdP (b1 b2 p b : Nat) (hd : Int) (iv : Value) (l : List Int) (Bf : Int → Nat) (pre : List (Int × Nat)) (W : World) : Prop where
  c1 : W.cell? ⟨b1, 0, none⟩ = some (.pointer (some ⟨p, 0, none⟩))
  c2 : W.cell? ⟨b2, 0, none⟩ = some (.int .u64 hd)
  ci : W.cell? ⟨b, 3, none⟩ = some iv
  row : W.ownsRow 0 TU 1 iv l.length (l.map u64v)
  fnd : ∀ x, pre ++ [x] <+: partsL hd b l Bf → Calls Try.prog 51 #[.pointer (some ⟨p, 0, none⟩), .int .u64 x.1] W fun e w' => e = .returned (.pointer (some ⟨x.2, 0, none⟩)) ∧ W = w'
theorem partsL_take (hd : Int) (b : Nat) (l : List Int) (Bf : Int → Nat) (q : Nat) (h : Int) (hq : l[q]? = some h) : (partsL hd b l Bf).take (q + 1) ++ [(h, Bf h)] = (partsL hd b l Bf).take (q + 1 + 1) := by
  unfold partsL
  rw [List.take_succ_cons, List.take_succ_cons, List.cons_append, List.take_add_one, List.getElem?_map, hq]
  rfl
def PartPost {α κ : Type} (J : κ → List α → World → Prop) (Jx : List α → World → Prop) (xs : List α) (e : Ending) (W' : World) : Prop := (∃ v, e = .returned v) ∧ ((∃ t, J t xs W') ∨ (∃ pre, pre <+: xs ∧ Jx pre W'))
set_option maxRecDepth 100000 in
set_option maxHeartbeats 1000000 in
theorem parts_it (n : Nat) (w : World) (b1 b2 p b : Nat) (hd : Int) (iv : Value) (l : List Int) (Bf : Int → Nat) (hl : l.length ≤ 1000000) :
    TellsX Fence.wide n Try.prog 73 #[.pointer (some ⟨b1, 0, none⟩), .pointer (some ⟨b2, 0, none⟩)] encO (fun (_ : Unit) W W' => W' = W) (fun _ _ _ => True) (GdP b1 b2 p b hd iv l Bf) (partsL hd b l Bf) w := by
  intro lp J Jx W _ _ _ hGd hG0 hY hOk
  show CallsIn Fence.wide n Try.prog 73 #[.func (.yield lp) #[] #[], .pointer (some ⟨b1, 0, none⟩), .pointer (some ⟨b2, 0, none⟩)] W (PartPost J Jx (partsL hd b l Bf))
  have HG := hid hGd
  have HY := hid hY
  have c1 := hG0.c1
  have c2 := hG0.c2
  have HF := hid (hG0.fnd (hd, b) ⟨l.map fun h => (h, Bf h), rfl⟩)
  have hy0 := hY () [] (hd, b) W (hOk () W rfl) ⟨l.map fun h => (h, Bf h), rfl⟩
  obtain ⟨fn, tmps, assign, body, hy, hRd⟩ := hy0
  have HR := hid hRd
  simp only [encO] at hy
  clear hGd hG0 hOk hRd hY
  refine callsIn_of_wp Try.func73 rfl trivial ?_ rfl
  simp only [Try.ntmps73, List.size_toArray, List.length_cons, List.length_nil, Nat.reduceAdd, Nat.reduceSub, Array.replicate_succ, Array.replicate_zero, List.push_toArray, List.append_toArray, List.nil_append, List.cons_append]
  gi_wp2
  refine ⟨trivial, (fun h => by cases h), (callsIn_wide.2 HF.out).mono ?_⟩
  rintro e w' ⟨rfl, rfl⟩
  gi_wp2
  refine ⟨(fun h => by cases h), HR.out.mono ?_⟩
  rintro e W3 (⟨rfl, hJ3, _, _⟩ | ⟨rfl, hJx3, _⟩)
  · have J3 := hid hJ3
    have hg3 := HG.out () _ _ hJ3
    have ci := hg3.ci
    obtain ⟨ia, ic, hiv⟩ := own_form hg3.row
    subst hiv
    clear hJ3 hg3 HF HR hy
    obtain ⟨N, hN⟩ : ∃ N, N = l.length := ⟨_, rfl⟩
    rw [← hN] at ci hl
    have HN := hid hN
    clear hN
    gi_wp2
    gi_loopw [24] (fun i wr => ∃ q : Nat, q ≤ N ∧ i = .int .i64 q ∧ RowKit.Hid (J () ((partsL hd b l Bf).take (q + 1)) wr)) (fun i _ => N - (intOf i).toNat)
    case atStart => exact ⟨0, Nat.zero_le _, rfl, hid (by simpa [partsL] using J3.out)⟩
    case round =>
      obtain ⟨q, hq, rfl, HJq⟩ := hrel
      by_cases hql : q < N
      · have hqL : q < l.length := by rw [← HN.out]; exact hql
        have hs : l[q]? = some l[q] := List.getElem?_eq_getElem hqL
        generalize l[q] = h at hs
        have hg := HG.out () _ _ HJq.out
        have hrow := hg.row
        rw [← HN.out] at hrow
        obtain ⟨g, k', hvf, _⟩ := hrow.form (by omega)
        simp only [Value.slice.injEq] at hvf
        obtain ⟨rfl, -, rfl⟩ := hvf
        have g0 : wr.cell? ⟨g, q, none⟩ = some (.int .u64 h) := by
          rw [hrow.cellAt q (by omega), List.getElem?_map, hs]; rfl
        have d1 := hg.c1
        have hpre := partsL_take hd b l Bf q h hs
        have hpx : (partsL hd b l Bf).take (q + 1) ++ [(h, Bf h)] <+: partsL hd b l Bf := by rw [hpre]; exact List.take_prefix _ _
        have HF := hid (hg.fnd _ hpx)
        have hy0 := HY.out () _ (h, Bf h) wr HJq.out hpx
        obtain ⟨fn, tmps, assign, body, hy, hRd⟩ := hy0
        have HR := hid hRd
        simp only [encO] at hy
        have HPRE := hid hpre
        have HPX := hid hpx
        clear hg hrow hRd hpre hpx hs hqL
        gi_wp2
        refine ⟨trivial, (fun h => by cases h), (callsIn_wide.2 HF.out).mono ?_⟩
        rintro e w' ⟨rfl, rfl⟩
        gi_wp2
        refine ⟨(fun h => by cases h), HR.out.mono ?_⟩
        rintro e W3 (⟨rfl, hJ3, _, _⟩ | ⟨rfl, hJx3, _⟩)
        · have J3 := hid hJ3
          clear hJ3
          gi_wp2
          go_roundw
          case rel => exact ⟨q + 1, by omega, by go_num, by rw [← HPRE.out]; exact J3⟩
          case measure => simp [intOf]; omega
        · have J3 := hid hJx3
          clear hJx3
          gi_wp2
          refine bodyPost_ret (results_none rfl _ _ _) rfl ?_
          exact ⟨⟨_, rfl⟩, .inr ⟨_, HPX.out, J3.out⟩⟩
      · obtain rfl : q = N := by omega
        have hall : (partsL hd b l Bf).take (q + 1) = partsL hd b l Bf := List.take_of_length_le (by have := HN.out; simp [partsL]; omega)
        have HA := hid hall
        clear hall
        gi_wp2
        go_end0
        exact ⟨⟨_, rfl⟩, .inl ⟨(), by have := HJq.out; rw [HA.out] at this; exact this⟩⟩
  · have J3 := hid hJx3
    clear hJx3
    gi_wp2
    refine bodyPost_ret (results_none rfl _ _ _) rfl ?_
    exact ⟨⟨_, rfl⟩, .inr ⟨[(hd, b)], ⟨l.map fun h => (h, Bf h), rfl⟩, J3.out⟩⟩
theorem parts_any (w : World) (p : Nat) (hd : Int) : Calls Try.prog 62 #[.pointer (some ⟨p, 0, none⟩), .int .u64 hd] w fun e w' => e = .returned (.func (.func 73) #[] #[.pointer (some ⟨w.heap.size, 0, none⟩), .pointer (some ⟨w.heap.size + 1, 0, none⟩)]) ∧ w' = (w.alloc (.cells #[.pointer (some ⟨p, 0, none⟩)] 24)).alloc (.cells #[.int .u64 hd] 34) := by
  go_enter Try.func62, Try.ntmps62
  go_wp2
  go_ret
  exact ⟨rfl, rfl⟩
end Go.Proofs.Ytmampaglemleoaa

namespace Go.Proofs.Ytmampaglemleoaa
open Go Go.ChangeShapes Go.WideShapes Go.ChangeAt Go.RowKit

/-- A block that holds no cells, or none, has turned. -/
def NoCells (W : World) (row : Option Nat) : Prop := ∀ r, row = some r → ∃ o : Obj, W.heap[r]? = some o ∧ o.isCells = false
section
variable {W W' : World} {row : Option Nat}
theorem kept_at {k : Nat} {cs : Array Value} {t : TypeId} {fz : Nat × Nat} (h : W.heap[k]? = some (.cells cs t fz)) (hg : W.grownBy W' row) (hr : NoCells W row) : W'.heap[k]? = some (.cells cs t fz) := heap_kept h hg (not_cells h hr)
theorem QRow.kept {v : Value} {xs : List Int} (h : QRow W v xs) (hg : W.grownBy W' row) (hr : NoCells W row) : QRow W' v xs := by
  rcases h with h | ⟨g, off, cap, cur, rfl, h1, h2⟩
  · exact .inl h
  · exact .inr ⟨g, off, cap, cur, rfl, kept_at h1 hg hr, h2⟩
theorem InS.kept {S : Nat → Prop} {p : Nat} {A : Ar} (h : InS S W p A) (hg : W.grownBy W' row) (hr : NoCells W row) : InS S W' p A := by
  obtain ⟨cv, fv, h1, h2, h3, h4, h5, h6⟩ := h
  exact ⟨cv, fv, ⟨kept_at h1.hp hg hr, owns_not_cells h1.hc hg hr, owns_not_cells h1.hf hg hr, h1.d1, h1.d2, h1.d3⟩, h2, h3, h4, h5, fun k hk => Nat.lt_of_lt_of_le (h6 k hk) hg.size⟩
theorem ObC.kept {F : Nat → Lab} {b : Nat} {sv iv : Value} {c : Int} {o : Ob} (h : ObC W F b sv iv c o) (hg : W.grownBy W' row) (hr : NoCells W row) : ObC W' F b sv iv c o :=
  ⟨kept_at h.hb hg hr, owns_not_cells h.hs hg hr, owns_not_cells h.hi hg hr, h.hc, h.fb, h.fs, h.fi⟩
theorem HpW.kept {p pa : Nat} {Sa : Nat → Prop} {AA : Ar} {F : Nat → Lab} {B : Int → Nat} {top : Int} {L : HL} (h : HpW W p pa Sa AA F B top L) (hg : W.grownBy W' row) (hr : NoCells W row) : HpW W' p pa Sa AA F B top L :=
  ⟨kept_at h.hp hg hr, h.ar.kept hg hr, h.fa, h.fp, fun o ho => by
    obtain ⟨sv, iv, c, hb⟩ := h.ob o ho
    exact ⟨sv, iv, c, hb.kept hg hr⟩, h.pl, h.co⟩
theorem SwW.kept {q p : Nat} {F : Nat → Lab} {wv gv fv : Value} {ws gs fs : List Int} (h : SwW W q p F wv gv fv ws gs fs) (hg : W.grownBy W' row) (hr : NoCells W row) : SwW W' q p F wv gv fv ws gs fs :=
  ⟨kept_at h.hq hg hr, h.hw.kept hg hr, owns_not_cells h.hg hg hr, owns_not_cells h.hf hg hr, h.lq, h.lw, h.lg, h.lf⟩
end
theorem KeepsOthers.of_fr {fp : Nat → Prop} {W W' : World} (hf : Fr fp W W') (hc : ∀ k o, fp k → W.heap[k]? = some o → o.isCells = true) : KeepsOthers W W' :=
  ⟨hf.size, fun k o hk ho => by
    rw [hf.block k (Array.getElem?_eq_some_iff.1 hk).1 (fun e => by rw [hc k o e hk] at ho; cases ho)]
    exact hk⟩
/-- An arena's blocks alone: all of them hold cells. -/
theorem InS.exact {S : Nat → Prop} {w : World} {p : Nat} {A : Ar} (h : InS S w p A) : ∃ S' : Nat → Prop, (∀ k, S' k → S k) ∧ InS S' w p A ∧ ∀ k o, S' k → w.heap[k]? = some o → o.isCells = true := by
  obtain ⟨cv, fv, h1, h2, h3, h4, h5, h6⟩ := h
  have own : ∀ {B e size n} {v : Value} {xs : List Value} {k : Nat} {o : Obj}, w.ownsRow B e size v n xs → v.ownBlock = some k → w.heap[k]? = some o → o.isCells = true := by
    intro B e size n v xs k o ho hv hk
    rcases ho.2 with ⟨rfl, _⟩ | ⟨g, cap, cur, rfl, _, hg, _⟩
    · simp [Value.ownBlock] at hv
    · simp [Value.ownBlock] at hv
      subst hv
      rw [hg] at hk
      cases hk
      rfl
  refine ⟨fun k => k = p ∨ cv.ownBlock = some k ∨ fv.ownBlock = some k, fun k hk => ?_, ⟨cv, fv, h1, h2, .inl rfl, fun k hk => .inr (.inl hk), fun k hk => .inr (.inr hk), fun k hk => ?_⟩, fun k o hk ho => ?_⟩
  · rcases hk with rfl | hk | hk
    · exact h3
    · exact h4 k hk
    · exact h5 k hk
  · rcases hk with rfl | hk | hk
    · exact h6 k h3
    · exact h6 k (h4 k hk)
    · exact h6 k (h5 k hk)
  · rcases hk with rfl | hk | hk
    · rw [h1.hp] at ho
      cases ho
      rfl
    · exact own h1.hc hk ho
    · exact own h1.hf hk ho
theorem Drop_any (S : Nat → Prop) (w : World) (p : Nat) (A : Ar) (i : Nat) (s : Spot) (hd : Int) (h : InS S w p A) (hf : Found A hd i s) :
    Calls Try.prog 75 #[.pointer (some ⟨p, 0, none⟩), .int .u64 hd] w fun e w' => (∃ v, e = .returned (.tuple #[v, .int .i64 0])) ∧ InS (ext S w w') w' p (dropAt A i s) ∧ Fr S w w' := by
  by_cases hw : s.g < 4294967295
  · exact (Drop_again S w p A i s hd h hf hw).mono fun e w' ⟨h1, h2, h3⟩ => ⟨⟨_, h1⟩, h2, h3⟩
  · exact (Drop_worn S w p A i s hd h hf hw).mono fun e w' ⟨h1, h2, h3⟩ => ⟨⟨_, h1⟩, h2.wider, h3⟩
theorem HpW.drop {w w' : World} {p pa : Nat} {Sa Sa' : Nat → Prop} {AA : Ar} {F : Nat → Lab} {B : Int → Nat} {top : Int} {L : HL} (h : HpW w p pa Sa AA F B top L) {hd : Int} {i : Nat} {sp : Spot} (hf : Found AA hd i sp) (ha : InS Sa' w' pa (dropAt AA i sp)) (hSa : ∀ k, Sa' k → Sa k ∨ w.heap.size ≤ k) (hfr : Fr Sa w w') :
    HpW w' p pa Sa' (dropAt AA i sp) (nw F w.heap.size (0, 0)) B top (L.filter fun o => !(o.h == hd)) := by
  have nosa : ∀ k l j, F k = (l, j) → l ≠ 0 → ¬ Sa k := fun k l j e hl hk => by
    rw [h.fa k hk] at e
    exact hl (congrArg Prod.fst e).symm
  have hmem : ∀ {o : Ob}, o ∈ L.filter (fun o => !(o.h == hd)) ↔ o ∈ L ∧ o.h ≠ hd := by intro o; rw [List.mem_filter]; simp
  have hAok := h.ar.ok
  refine ⟨by rw [hfr.block p h.lt (nosa p _ _ h.fp (by omega))]; exact h.hp, ha, fun k hk => ?_, by rw [nw_lt h.lt]; exact h.fp, fun o ho => ?_, fun o ho => ?_, fun j r h1 h2 => ?_⟩
  · rcases hSa k hk with e | e
    · rw [nw_lt (h.ar.lt k e)]; exact h.fa k e
    · exact nw_ge e
  · have hm := (hmem.1 ho).1
    have := h.bd hm
    exact (h.ob o hm).fr hfr (fun k j e => nosa k _ j e (by omega)) (fun k hk => nw_lt hk)
  · obtain ⟨hm, hne⟩ := hmem.1 ho
    obtain ⟨j, r, h1, h2, h3, h4⟩ := h.pl o hm
    refine ⟨j, r, (drop_at hf.1 j r h2).2 ⟨h1, fun e => ?_⟩, h2, h3, h4⟩
    subst e
    rw [hf.1] at h1
    cases h1
    exact hne (h3.trans hf.2.2.symm)
  · obtain ⟨h3, h4⟩ := (drop_at hf.1 j r h2).1 h1
    obtain ⟨o, ho, e⟩ := h.co j r h3 h2
    refine ⟨o, hmem.2 ⟨ho, fun e2 => h4 ?_⟩, e⟩
    have h5 := hAok.lt h3
    have h6 := hAok.lt hf.1
    exact (hand_inj2 (by omega) (by omega) (e.symm.trans (e2.trans hf.2.2))).1
theorem parts_all (hd : Int) (b : Nat) (l : List Int) (Bf : Int → Nat) : (partsL hd b l Bf).map (·.1) = hd :: l := by
  unfold partsL
  rw [List.map_cons, List.map_map]
  congr 1
  exact (List.map_congr_left (fun _ _ => rfl)).trans (List.map_id l)
theorem parts_next {hd : Int} {b : Nat} {l : List Int} {Bf : Int → Nat} (hn : (hd :: l).Nodup) (hb : b = Bf hd) {pre : List (Int × Nat)} {y : Int × Nat} (h : pre ++ [y] <+: partsL hd b l Bf) : y.2 = Bf y.1 ∧ y.1 ∈ hd :: l ∧ y.1 ∉ pre.map (·.1) := by
  have hm : y ∈ partsL hd b l Bf := h.subset (by simp)
  have h1 : y.2 = Bf y.1 ∧ y.1 ∈ hd :: l := by
    unfold partsL at hm
    rcases List.mem_cons.1 hm with rfl | hm
    · exact ⟨hb, by simp⟩
    · obtain ⟨x, hx, rfl⟩ := List.mem_map.1 hm
      exact ⟨rfl, by simp [hx]⟩
  refine ⟨h1.1, h1.2, fun hy => ?_⟩
  have h2 : (pre ++ [y]).map (·.1) <+: hd :: l := by
    have := h.map (·.1)
    rw [parts_all] at this
    exact this
  have h3 := hn.sublist h2.sublist
  rw [List.map_append, List.nodup_append] at h3
  exact h3.2.2 _ hy _ (by simp) rfl
theorem drr_more {A A1 A2 : Ar} {l m : List Int} (h : DrR A l A1) (k : DrR A1 m A2) : DrR A (l ++ m) A2 := by
  induction h with
  | nil => exact k
  | cons hf _ ih => exact .cons hf (ih k)
theorem held_all {L : HL} {x : Ob} (hx : fnd L x.h = some x) : (awa L x.h).2.1 = (x.h :: x.inners).flatMap (linksOf L) := by
  rw [awa_some hx]
  simp only [List.flatMap_cons]
  have h1 : linksOf L x.h = x.links := by unfold linksOf; rw [hx]
  rw [h1]
  congr 1
  generalize x.inners = l
  induction l with
  | nil => rfl
  | cons a l ih =>
    rw [List.filterMap_cons, List.flatMap_cons, ← ih]
    unfold linksOf
    cases fnd L a with
    | none => simp
    | some o => simp
theorem lab_low {F : Nat → Lab} {fp : Nat → Prop} (hl : ∀ k, fp k → (F k).1 ≤ -2) {k : Nat} {l : Int} {j : Nat} (e : F k = (l, j)) (h : -2 < l) : ¬ fp k := fun hk => by
  have := hl k hk
  rw [e] at this
  simp only at this
  omega
theorem HpW.low {w w' : World} {p pa : Nat} {Sa : Nat → Prop} {AA : Ar} {F F' : Nat → Lab} {B : Int → Nat} {top : Int} {L : HL} {fp : Nat → Prop} (h : HpW w p pa Sa AA F B top L) (hf : Fr fp w w') (hl : ∀ k, fp k → (F k).1 ≤ -2) (hF : ∀ k, k < w.heap.size → F' k = F k) : HpW w' p pa Sa AA F' B top L :=
  h.fr hf (lab_low hl h.fp (by omega)) (fun k e => lab_low hl e (by omega)) (fun o ho k j e => lab_low hl e (by have := (h.bd ho).1; omega)) hF
theorem own_cells {w : World} {B : Nat} {e : TypeId} {size n : Nat} {v : Value} {xs : List Value} {k : Nat} {o : Obj} (ho : w.ownsRow B e size v n xs) (hv : v.ownBlock = some k) (hk : w.heap[k]? = some o) : o.isCells = true := by
  rcases ho.2 with ⟨rfl, _⟩ | ⟨g, cap, cur, rfl, _, hg, _⟩
  · simp [Value.ownBlock] at hv
  · simp [Value.ownBlock] at hv
    subst hv
    rw [hg] at hk
    cases hk
    rfl
theorem SwW.pushg {w w' : World} {q p : Nat} {F : Nat → Lab} {wv gv gv' fv : Value} {ws gs fs : List Int} {h : Int} (hs : SwW w q p F wv gv fv ws gs fs) (hf : Fr (fun k => k = q ∨ gv.ownBlock = some k) w w')
    (hq : w'.heap[q]? = some (.cells #[.pointer (some ⟨p, 0, none⟩), wv, gv', fv] 118 (0, 0))) (hg : w'.ownsRow 0 TU 1 gv' (gs ++ [h]).length ((gs ++ [h]).map u64v)) (hb : ∀ k, gv'.ownBlock = some k → gv.ownBlock = some k ∨ w.heap.size ≤ k) :
    SwW w' q p (nw F w.heap.size (-2, 2)) wv gv' fv ws (gs ++ [h]) fs := by
  have hlab : ∀ k, (k = q ∨ gv.ownBlock = some k) → F k = (-2, 0) ∨ F k = (-2, 2) := fun k hk => by
    rcases hk with rfl | hk
    · exact .inl hs.lq
    · exact .inr (hs.lg k hk)
  refine ⟨hq, ?_, hg, ?_, by rw [nw_lt hs.lt]; exact hs.lq, fun k hk => by rw [nw_lt (hs.hw.lt k hk)]; exact hs.lw k hk, fun k hk => ?_, fun k hk => by rw [nw_lt (hs.hf.lt k hk).2]; exact hs.lf k hk⟩
  · exact hs.hw.fr hf (fun k hk e => by
      have h1 := hs.lw k hk
      rcases hlab k e with e2 | e2 <;> (rw [h1] at e2; cases e2))
  · exact hf.owns hs.hf (fun k hk e => by
      have h1 := hs.lf k hk
      rcases hlab k e with e2 | e2 <;> (rw [h1] at e2; cases e2))
  · by_cases e : k < w.heap.size
    · rw [nw_lt e]
      rcases hb k hk with e2 | e2
      · exact hs.lg k e2
      · omega
    · exact nw_ge (by omega)
/-- append of nothing. -/
theorem run_append_zero_nil {P : Program} (w : World) (base : Nat) (t ty e : TypeId) (i : TypeInfo) (size : Nat) (ht : P.underlying t = some (.slice e)) (hi : P.info? e = some i) (v : Value) (n : Nat) (xs : List Value) (hown : w.ownsRow base e size v n xs) :
    (Builtin.append_ #[t, t] ty #[v, .slice none 0 0]).run P w = .ok v w := by
  rcases hown.2 with ⟨rfl, rfl⟩ | ⟨g, cap, cur, rfl, _, _, hnc, _⟩
  · simp [Builtin.append_, run_underlying ht, sizeOf, typeInfo, hi, Builtin.lenOf, Builtin.firstCells]
  · simp [Builtin.append_, run_underlying ht, sizeOf, typeInfo, hi, Builtin.lenOf, Builtin.firstCells, loadCells, hnc, storeCells]
/-- append of links, as many as may be. -/
theorem append_links {w : World} {base : Nat} {t ty : TypeId} {i : TypeInfo} (ht : Try.prog.underlying t = some (.slice 67)) (hi : Try.prog.info? 67 = some i) (hz : i.zero = some (.agg #[.int .i64 0, .int .u64 0])) (hs : i.size = 2) (hb : i.bytes = 16)
    {v u : Value} {n : Nat} {xs : List Value} {l : List Lk} {B2 : Nat} (h1 : w.ownsRow base 67 2 v n xs) (h2 : w.ownsRow B2 67 2 u l.length (lkv l)) (hn : n + l.length ≤ 100000000) (hbase : base ≤ w.heap.size) :
    ∃ a c w', (Builtin.append_ #[t, t] ty #[v, u]).run Try.prog w = .ok (.slice a (n + l.length) c) w' ∧ w'.ownsRow base 67 2 (.slice a (n + l.length) c) (n + l.length) (xs ++ lkv l) ∧ w.grownBy w' v.ownBlock ∧ ((Value.slice a (n + l.length) c).ownBlock = v.ownBlock ∨ (Value.slice a (n + l.length) c).ownBlock = some w.heap.size) := by
  obtain ⟨v', w', r1, r2, r3, r4⟩ : ∃ v' w', (Builtin.append_ #[t, t] ty #[v, u]).run Try.prog w = .ok v' w' ∧ w'.ownsRow base 67 2 v' (n + l.length) (xs ++ lkv l) ∧ w.grownBy w' v.ownBlock ∧ (v'.ownBlock = v.ownBlock ∨ v'.ownBlock = some w.heap.size) := by
    obtain ⟨a, c, rfl⟩ := own_form h2
    cases a with
    | none =>
      have hl : l.length = 0 ∧ c = 0 := by
        rcases h2.2 with ⟨e1, e2⟩ | ⟨g, cap, cur, e, _⟩
        · simp at e1
          exact ⟨e2, e1.2⟩
        · cases e
      obtain ⟨hl0, rfl⟩ := hl
      have : l = [] := List.eq_nil_of_length_eq_zero hl0
      subst this
      exact ⟨v, w, run_append_zero_nil w base t ty _ i 2 ht hi v n xs h1, by simpa [lkv] using h1, ⟨rfl, rfl, rfl, Nat.le_refl _, fun _ _ _ => rfl⟩, .inl rfl⟩
    | some a =>
      obtain ⟨v', w', q1, q2, q3, _, q5⟩ := run_append_own_at (P := Try.prog) w base t ty _ i _ 2 16 ht hi hz hs hb rfl (by decide) v n xs h1 a l.length c (lkv l) (lkv_len l) (by
        rcases h2.2 with ⟨e1, _⟩ | ⟨g, cap, cur, e, _⟩
        · simp at e1
        · have := h2.cells (g := g) (by rw [e]; rfl)
          cases e
          exact this) (lkv_one l) (by unfold maxLen; omega) (by omega) hbase
      exact ⟨v', w', q1, q2, q3, q5⟩
  obtain ⟨a, c, rfl⟩ := own_form r2
  exact ⟨a, c, w', r1, r2, r3, r4⟩
theorem links_len8 {top : Int} {L : HL} (hi : HIn top L) (g : List Int) : (g.flatMap (linksOf L)).length ≤ g.length * 8 := by
  induction g with
  | nil => simp
  | cons a g ih =>
    rw [List.flatMap_cons, List.length_append, List.length_cons]
    have : (linksOf L a).length ≤ 8 := by
      unfold linksOf
      cases hf : fnd L a with
      | none => simp
      | some o => exact (hi.lnk o (fnd_some hf).1).1
    omega
end Go.Proofs.Ytmampaglemleoaa
