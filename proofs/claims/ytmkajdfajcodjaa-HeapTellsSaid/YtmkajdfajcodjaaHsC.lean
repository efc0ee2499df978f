/- HsA HsB HsC in one -/
import Derived.Test.YtmkajdfajcodjaaHqT
import Derived.Test.YtmkajdfajcodjaaMpO
namespace Go.Proofs.Ytmkajdfajcodjaa
open Go

/-- All counts of these are none. -/
def clr (L : HL) (l : List Int) : HL := l.foldl (fun L x => setc L x 0) L
theorem clr_nil (L : HL) : clr L [] = L := rfl
theorem clr_cons (L : HL) (x : Int) (l : List Int) : clr L (x :: l) = clr (setc L x 0) l := rfl
theorem clr_snoc (L : HL) (l : List Int) (x : Int) : clr L (l ++ [x]) = setc (clr L l) x 0 := by unfold clr; rw [List.foldl_append]; rfl
theorem clr_h : ∀ (l : List Int) (L : HL), (clr L l).map (·.h) = L.map (·.h)
  | [], _ => rfl
  | x :: l, L => by rw [clr_cons, clr_h l, setc_h]
theorem clr_in {top : Int} (h0 : 0 ≤ top) : ∀ (l : List Int) {L : HL}, HIn top L → HIn top (clr L l)
  | [], _, h => h
  | x :: l, L, h => by rw [clr_cons]; exact clr_in h0 l (h.setc x 0 ⟨Int.le_refl _, h0⟩)
theorem clr_mem : ∀ (l : List Int) {L : HL} {o : Ob}, o ∈ L → ∃ p ∈ clr L l, p.h = o.h ∧ p.outer = o.outer ∧ (o.count = 0 ∨ o.h ∈ l → p.count = 0)
  | [], L, o, ho => ⟨o, ho, rfl, rfl, by simp⟩
  | x :: l, L, o, ho => by
    have h1 : (if o.h = x then { o with count := 0 } else o) ∈ setc L x 0 := mem_setc.2 ⟨o, ho, rfl⟩
    obtain ⟨p, hp, e1, e2, e3⟩ := clr_mem l h1
    rw [clr_cons]
    refine ⟨p, hp, ?_, ?_, fun h => e3 ?_⟩
    · rw [e1]; split <;> rfl
    · rw [e2]; split <;> rfl
    · by_cases e : o.h = x
      · rw [if_pos e]; exact .inl rfl
      · rw [if_neg e]
        rcases h with h | h
        · exact .inl h
        · rcases List.mem_cons.1 h with h | h
          · exact absurd h e
          · exact .inr h
theorem clr_back : ∀ (l : List Int) {L : HL} {o : Ob}, o ∈ clr L l → ∃ p ∈ L, p.h = o.h ∧ p.outer = o.outer ∧ p.links = o.links ∧ p.inners = o.inners
  | [], L, o, ho => ⟨o, ho, rfl, rfl, rfl, rfl⟩
  | x :: l, L, o, ho => by
    rw [clr_cons] at ho
    obtain ⟨p, hp, e1, e2, e3, e4⟩ := clr_back l ho
    obtain ⟨q, hq, f1, f2, _, f3, f4, _⟩ := setc_mem hp
    exact ⟨q, hq, f1.symm.trans e1, f2.symm.trans e2, f3.symm.trans e3, f4.symm.trans e4⟩
theorem clr_len (L : HL) (l : List Int) : (clr L l).length = L.length := by
  have := congrArg List.length (clr_h l L)
  simpa using this
theorem WQ.clr {L : HL} {l : List Int} (hn : l.Nodup) (ha : ∀ x ∈ l, ∃ o ∈ L, o.h = x ∧ o.outer = 0) : WQ (Go.Proofs.Ytmkajdfajcodjaa.clr L l) l := ⟨hn, fun x hx => by
  obtain ⟨o, ho, e1, e2⟩ := ha x hx
  obtain ⟨p, hp, f1, f2, f3⟩ := clr_mem l ho
  exact ⟨p, hp, f1.trans e1, f2.trans e2, f3 (.inr (by rw [e1]; exact hx))⟩⟩
/-- Some are removed. -/
inductive RmR (s : Hs) (l : List Int) : Hs → List Int → List Int → Int → Prop
  | stale (x : Int) (hx : x ∈ l) (hf : fnd s.L x = none) : RmR s l s [] [] 2
  | arg (ha : ∀ x ∈ l, ∃ o ∈ s.L, o.h = x) (hb : ¬ (l.Nodup ∧ ∀ x ∈ l, ∃ o ∈ s.L, o.h = x ∧ o.outer = 0)) : RmR s l s [] [] 1
  | ok (hn : l.Nodup) (ha : ∀ x ∈ l, ∃ o ∈ s.L, o.h = x ∧ o.outer = 0) {L' : HL} {A' : Ar} {g f : List Int} (hg : Goes (clr s.L l) l L' g f) (hd : DrR s.A g A') : RmR s l { s with L := L', A := A' } g f 0
theorem RmR.hsi {s s' : Hs} {l g f : List Int} {er : Int} (h : RmR s l s' g f er) (hs : HsI s) : HsI s' := by
  cases h with
  | stale => exact hs
  | arg => exact hs
  | ok hn ha hg hd =>
    have hi := clr_in (by have := hs.t1; omega) l hs.inv
    exact hs.gone (clr_h l s.L) hi ((WQ.clr hn ha).ww hi.nd) hg hd
theorem DrR.same {A A1 A2 : Ar} {l : List Int} (h : DrR A l A1) : Ok A → DrR A l A2 → A1 = A2 := by
  induction h with
  | nil => intro _ k; cases k; rfl
  | cons hf hr ih =>
    intro hA k
    cases k with
    | cons kf kr =>
      obtain ⟨rfl, rfl⟩ := Found.same hA hf kf
      exact ih (drop_ok hA hf.1 hf.2.1) kr
theorem RmR.same {s s1 s2 : Hs} {l g1 f1 g2 f2 : List Int} {e1 e2 : Int} (hs : HsI s) (h : RmR s l s1 g1 f1 e1) (k : RmR s l s2 g2 f2 e2) : s1 = s2 ∧ g1 = g2 ∧ f1 = f2 ∧ e1 = e2 := by
  cases h with
  | stale x hx hf =>
    cases k with
    | stale => exact ⟨rfl, rfl, rfl, rfl⟩
    | arg ha =>
      obtain ⟨o, ho, e⟩ := ha x hx
      exact absurd e (fnd_none.1 hf o ho)
    | ok hn ha =>
      obtain ⟨o, ho, e, _⟩ := ha x hx
      exact absurd e (fnd_none.1 hf o ho)
  | arg ha hb =>
    cases k with
    | stale x hx hf =>
      obtain ⟨o, ho, e⟩ := ha x hx
      exact absurd e (fnd_none.1 hf o ho)
    | arg => exact ⟨rfl, rfl, rfl, rfl⟩
    | ok hn ha2 => exact absurd ⟨hn, ha2⟩ hb
  | ok hn ha hg hd =>
    cases k with
    | stale x hx hf =>
      obtain ⟨o, ho, e, _⟩ := ha x hx
      exact absurd e (fnd_none.1 hf o ho)
    | arg _ hb => exact absurd ⟨hn, ha⟩ hb
    | ok _ _ hg2 hd2 =>
      obtain ⟨rfl, rfl, rfl⟩ := hg.same hg2
      rw [DrR.same hd hs.ok.aok hd2]
      exact ⟨rfl, rfl, rfl, rfl⟩
theorem DnR.same {s s1 s2 : Hs} {h : Int} {g1 f1 g2 f2 : List Int} {e1 e2 : Int} (hs : HsI s) (k1 : DnR s h s1 g1 f1 e1) (k2 : DnR s h s2 g2 f2 e2) : s1 = s2 ∧ g1 = g2 ∧ f1 = f2 ∧ e1 = e2 := by
  cases k1 with
  | stale hf =>
    cases k2 with
    | stale => exact ⟨rfl, rfl, rfl, rfl⟩
    | ok o hf2 => rw [hf] at hf2; cases hf2
  | ok o hf hd ha =>
    cases k2 with
    | stale hf2 => rw [hf] at hf2; cases hf2
    | ok o2 hf2 hd2 ha2 =>
      obtain ⟨x, hx, rfl⟩ := hd
      obtain ⟨y, hy, rfl⟩ := hd2
      obtain ⟨rfl, rfl, rfl⟩ := hx.same hy
      rw [DrR.same ha hs.ok.aok ha2]
      exact ⟨rfl, rfl, rfl, rfl⟩
theorem UpR.same {s s1 s2 : Hs} {h n1 n2 e1 e2 : Int} (k1 : UpR s h s1 n1 e1) (k2 : UpR s h s2 n2 e2) : s1 = s2 ∧ n1 = n2 ∧ e1 = e2 := by
  cases k1 <;> cases k2 <;> simp_all
theorem PuR.same {s s1 s2 : Hs} {h slot : Int} {x : Lk} {g1 f1 g2 f2 : List Int} {e1 e2 : Int} (hs : HsI s) (k1 : PuR s h slot x s1 g1 f1 e1) (k2 : PuR s h slot x s2 g2 f2 e2) : s1 = s2 ∧ g1 = g2 ∧ f1 = f2 ∧ e1 = e2 := by
  cases k1 with
  | stale hf =>
    cases k2 <;> first | exact ⟨rfl, rfl, rfl, rfl⟩ | (simp_all; done)
  | arg o hf hb =>
    cases k2 with
    | stale hf2 => rw [hf] at hf2; cases hf2
    | arg => exact ⟨rfl, rfl, rfl, rfl⟩
    | no o2 hf2 hs2 hk => rw [hf] at hf2; cases hf2; omega
    | obj o2 hf2 hs2 hk => rw [hf] at hf2; cases hf2; omega
    | oth o2 hf2 hs2 hk => rw [hf] at hf2; cases hf2; omega
  | no o hf hsl hk hu he =>
    cases k2 with
    | stale hf2 => rw [hf] at hf2; cases hf2
    | arg o2 hf2 hb => rw [hf] at hf2; cases hf2; omega
    | no o2 hf2 hs2 hk2 hu2 => obtain ⟨_, _, rfl⟩ := hu.same hu2; exact ⟨rfl, rfl, rfl, rfl⟩
    | obj o2 hf2 hs2 hk2 hu2 => obtain ⟨_, _, e⟩ := hu.same hu2; exact absurd e he
    | oth o2 hf2 hs2 hk2 => omega
  | obj o hf hsl hk hu ho hp ha =>
    cases k2 with
    | stale hf2 => rw [hf] at hf2; cases hf2
    | arg o2 hf2 hb => rw [hf] at hf2; cases hf2; omega
    | no o2 hf2 hs2 hk2 hu2 he => obtain ⟨_, _, e⟩ := hu.same hu2; exact absurd e.symm he
    | obj o2 hf2 hs2 hk2 hu2 ho2 hp2 ha2 =>
      rw [hf] at hf2
      cases hf2
      obtain ⟨rfl, _, _⟩ := hu.same hu2
      rw [ho] at ho2
      cases ho2
      obtain ⟨x, hx, rfl⟩ := hp
      obtain ⟨y, hy, rfl⟩ := hp2
      obtain ⟨rfl, rfl, rfl⟩ := hx.same hy
      rw [DrR.same ha hs.ok.aok ha2]
      exact ⟨rfl, rfl, rfl, rfl⟩
    | oth o2 hf2 hs2 hk2 => omega
  | oth o hf hsl hk ho hp ha =>
    cases k2 with
    | stale hf2 => rw [hf] at hf2; cases hf2
    | arg o2 hf2 hb => rw [hf] at hf2; cases hf2; omega
    | no o2 hf2 hs2 hk2 => omega
    | obj o2 hf2 hs2 hk2 => omega
    | oth o2 hf2 hs2 hk2 ho2 hp2 ha2 =>
      rw [hf] at hf2
      cases hf2
      rw [ho] at ho2
      cases ho2
      obtain ⟨x, hx, rfl⟩ := hp
      obtain ⟨y, hy, rfl⟩ := hp2
      obtain ⟨rfl, rfl, rfl⟩ := hx.same hy
      rw [DrR.same ha hs.ok.aok ha2]
      exact ⟨rfl, rfl, rfl, rfl⟩
theorem Put.same {A A1 A2 : Ar} {x : Int} {i1 i2 g1 g2 : Nat} (h : Put A x i1 g1 A1) (k : Put A x i2 g2 A2) : i1 = i2 ∧ g1 = g2 ∧ A1 = A2 := by
  cases h with
  | again F i s hF hs =>
    cases k with
    | again F' i' s' hF' hs' =>
      rw [hF] at hF'
      obtain ⟨rfl, e⟩ := List.append_inj' hF' rfl
      cases e
      rw [hs] at hs'
      cases hs'
      exact ⟨rfl, rfl, rfl⟩
    | fresh hF' => rw [hF] at hF'; simp at hF'
  | fresh hF hl =>
    cases k with
    | again F' i' s' hF' => rw [hF] at hF'; simp at hF'
    | fresh => exact ⟨rfl, rfl, rfl⟩
theorem Put.notfull {A A1 : Ar} {x : Int} {i g : Nat} (h : Put A x i g A1) : ¬ Full A := fun k => by
  cases h with
  | again F i s hF hs => rw [k.1] at hF; simp at hF
  | fresh hF hl => have := k.2; omega
theorem MkR.same {s s1 s2 : Hs} {slots outer h1 h2 e1 e2 : Int} (k1 : MkR s slots outer s1 h1 e1) (k2 : MkR s slots outer s2 h2 e2) : s1 = s2 ∧ h1 = h2 ∧ e1 = e2 := by
  cases k1 with
  | arg h => cases k2 <;> first | exact ⟨rfl, rfl, rfl⟩ | omega
  | stale h h0 hf =>
    cases k2 with
    | arg h' => omega
    | stale => exact ⟨rfl, rfl, rfl⟩
    | inner _ _ o hf2 => rw [hf] at hf2; cases hf2
    | full _ h2 => obtain ⟨o, hf2, _⟩ := h2 h0; rw [hf] at hf2; cases hf2
    | ok _ h2 => obtain ⟨o, hf2, _⟩ := h2 h0; rw [hf] at hf2; cases hf2
  | inner h h0 o hf ho =>
    cases k2 with
    | arg h' => omega
    | stale _ _ hf2 => rw [hf] at hf2; cases hf2
    | inner => exact ⟨rfl, rfl, rfl⟩
    | full _ h2 => obtain ⟨o2, hf2, h3⟩ := h2 h0; rw [hf] at hf2; cases hf2; exact absurd h3 ho
    | ok _ h2 => obtain ⟨o2, hf2, h3⟩ := h2 h0; rw [hf] at hf2; cases hf2; exact absurd h3 ho
  | full h h0 hf =>
    cases k2 with
    | arg h' => omega
    | stale _ h2 hf2 => obtain ⟨o, hf3, _⟩ := h0 h2; rw [hf3] at hf2; cases hf2
    | inner _ h2 o hf2 ho => obtain ⟨o2, hf3, h3⟩ := h0 h2; rw [hf3] at hf2; cases hf2; exact absurd h3 ho
    | full => exact ⟨rfl, rfl, rfl⟩
    | ok _ _ hp => exact absurd hf hp.notfull
  | ok h h0 hp =>
    cases k2 with
    | arg h' => omega
    | stale _ h2 hf2 => obtain ⟨o, hf3, _⟩ := h0 h2; rw [hf3] at hf2; cases hf2
    | inner _ h2 o hf2 ho => obtain ⟨o2, hf3, h3⟩ := h0 h2; rw [hf3] at hf2; cases hf2; exact absurd h3 ho
    | full _ _ hf => exact absurd hf hp.notfull
    | ok _ _ hp2 => obtain ⟨rfl, rfl, rfl⟩ := hp.same hp2; exact ⟨rfl, rfl, rfl⟩
end Go.Proofs.Ytmkajdfajcodjaa

namespace Go.Proofs.Ytmkajdfajcodjaa
open Go Go.ChangeShapes Go.WideShapes Go.ChangeAt Go.RowKit Go.Maps

theorem lawU : Keyed Try.prog TU := int_keyed Try.underlying34
abbrev TMS : TypeId := 145
abbrev TE : TypeId := 146
theorem zeroE (w : World) : (zeroValue TE).run Try.prog w = .ok (.agg #[]) w := by kernel_rfl
theorem wf_hn {k : Int} (h : Hn k) : (Lit.int .u64 k).wf = true := WalkArith.wf_u64 ⟨h.1, h.2⟩
theorem atl_u64 {w : World} {b o : Nat} {l : List Int} (h : AtL w b o (l.map u64v)) {k : Nat} {x : Int} (hx : l[k]? = some x) : w.cell? ⟨b, o + k, none⟩ = some (.int .u64 x) := h k (u64v x) (by rw [List.getElem?_map, hx]; rfl)
theorem atl_fr {fp : Nat → Prop} {w w' : World} {b o : Nat} {l : List Value} (h : AtL w b o l) (hb : b < w.heap.size) (hf : Fr fp w w') (hn : ¬ fp b) : AtL w' b o l := fun j u hu => by
  rw [World.cell?_of_block (hf.block b hb hn)]; exact h j u hu
/-- All ahead of here are wholes, each once. -/
def Whs (L : HL) (l : List Int) : Prop := l.Nodup ∧ ∀ x ∈ l, ∃ o ∈ L, o.h = x ∧ o.outer = 0
theorem Whs.snoc {L : HL} {l : List Int} (h : Whs L l) {o : Ob} (ho : o ∈ L) (h0 : o.outer = 0) (hn : o.h ∉ l) : Whs L (l ++ [o.h]) :=
  ⟨List.nodup_append.2 ⟨h.1, by simp, fun a ha b hb e => by simp at hb; subst hb; subst e; exact hn ha⟩, fun x hx => by
    rcases List.mem_append.1 hx with hx | hx
    · exact h.2 x hx
    · simp at hx; exact ⟨o, ho, hx.symm, h0⟩⟩
theorem not_twice {L : HL} {l : List Int} {k : Nat} {x : Int} (hx : l[k]? = some x) (hm : x ∈ l.take k) : ¬ Whs L l := fun h => by
  obtain ⟨j, hj, e⟩ := List.getElem_of_mem hm
  have hj2 : j < k := by simp at hj; omega
  have hkl := (List.getElem?_eq_some_iff.1 hx)
  obtain ⟨hk, ek⟩ := hkl
  rw [List.getElem_take] at e
  have := (List.pairwise_iff_getElem.1 h.1) j k (by omega) hk hj2
  rw [e, ek] at this
  exact this rfl
theorem not_inner {top : Int} {L : HL} (hi : HIn top L) {l : List Int} {o : Ob} (ho : o ∈ L) (h0 : o.outer ≠ 0) (hm : o.h ∈ l) : ¬ Whs L l := fun h => by
  obtain ⟨p, hp, e1, e2⟩ := h.2 _ hm
  rw [ob_eq hi.nd ho hp e1] at e2
  exact h0 e2
structure AwI (w : World) (L : HL) (l : List Int) (k : Nat) (W : World) : Prop where
  mp : ∃ D : DataW Unit, W.ownsMap Try.prog TU unitElem w.heap.size k D ∧ ∀ t, Maps.has D (.int .u64 t) = decide (t ∈ l.take k)
  ok : Whs L (l.take k)
  fr : Fr (fun _ => False) w W
  sz : w.heap.size < W.heap.size
section
variable {w : World} {p pa : Nat} {Sa : Nat → Prop} {AA : Ar} {F : Nat → Lab} {B : Int → Nat} {top : Int} {L : HL}
theorem HpW.no {w' : World} (h : HpW w p pa Sa AA F B top L) (hf : Fr (fun _ => False) w w') : HpW w' p pa Sa AA F B top L :=
  h.fr hf (fun e => e) (fun _ _ e => e) (fun _ _ _ _ _ e => e) (fun _ _ => rfl)
set_option maxRecDepth 100000 in
set_option maxHeartbeats 2000000 in
theorem areWholes_any (h : HpW w p pa Sa AA F B top L) (hi : HIn top L) {b off c : Nat} {l : List Int} (hat : AtL w b off (l.map u64v)) (hb : b < w.heap.size) (hl : l.length ≤ 1000000) (hc : l.length ≤ c) (ha : ∀ x ∈ l, ∃ o ∈ L, o.h = x) :
    Calls Try.prog 55 #[.pointer (some ⟨p, 0, none⟩), .slice (some ⟨b, off, none⟩) l.length c] w fun e w' => Fr (fun _ => False) w w' ∧ ((e = .returned (.bool true) ∧ Whs L l) ∨ (e = .returned (.bool false) ∧ ¬ Whs L l)) := by
  have hmm := @run_makeMap Try.prog
  have H := hid h
  have HI := hid hi
  have HAT := hid hat
  have HA := hid ha
  obtain ⟨n, hn⟩ : ∃ n, n = l.length := ⟨_, rfl⟩
  have HN := hid hn
  rw [← hn] at hl hc ⊢
  clear h hi hat ha hn
  go_enter Try.func55, Try.ntmps55
  go_wp2
  go_loopw [13] (fun i wr => ∃ k : Nat, k ≤ n ∧ i = .int .i64 k ∧ RowKit.Hid (AwI w L l k wr)) (fun i _ => n - (intOf i).toNat)
  case atStart =>
    refine ⟨0, Nat.zero_le _, rfl, ⟨⟨_, World.ownsMap_made _ _ _ _, fun t => ?_⟩, ⟨by simp, by simp⟩, (Fr.refl _ _).alloc _, by simp⟩⟩
    simp [Maps.has]
  case round =>
    obtain ⟨k, hk, rfl, HR⟩ := hrel
    by_cases hkn : k < n
    · have hn := HN.out
      obtain ⟨x, hx⟩ : ∃ x, l[k]? = some x := ⟨_, List.getElem?_eq_getElem (by omega)⟩
      have hxm : x ∈ l := List.mem_of_getElem? hx
      obtain ⟨o, ho, he⟩ := HA.out x hxm
      have h1 := H.out.no HR.out.fr
      have hcx : wr.cell? ⟨b, off + k, none⟩ = some (.int .u64 x) := atl_u64 (atl_fr HAT.out hb HR.out.fr (fun e => e)) hx
      have hbd := h1.bd ho
      have hxb : Hn x := by rw [← he]; exact ⟨by omega, hbd.2⟩
      obtain ⟨D, hown, hhas⟩ := HR.out.mp
      have HK := hid (keyOf_int_mk (P := Try.prog) Try.underlying34 (wf_hn hxb))
      obtain ⟨W1, hW1⟩ : ∃ W1, W1 = wr.alloc (.cells #[] TE) := ⟨_, rfl⟩
      have hfr1 : Fr (fun _ => False) wr W1 := by rw [hW1]; exact (Fr.refl _ _).alloc _
      have h2 := h1.no hfr1
      have HF := hid (find_some h2 ho)
      obtain ⟨sv, iv, cc, hob⟩ := h2.ob o ho
      have co := hob.c2
      have hown1 : W1.ownsMap Try.prog TU unitElem w.heap.size k D := by rw [hW1]; exact hown.alloc _
      rw [he] at HF co
      have HOWN := hid hown
      have HOWN1 := hid hown1
      have HW1 := hid hW1
      have HFR1 := hid hfr1
      have HXB := hid hxb
      have HO := hid ho
      have HE := hid he
      have HX := hid hx
      have HXM := hid hxm
      have hhx := hhas x
      have HH := hid hhas
      clear hW1 hfr1 h1 h2 hob hown hown1 hbd hxb ho he hx hxm hhas hn
      by_cases hm : x ∈ l.take k
      · have hh : Maps.has D (.int .u64 x) = true := by rw [hhx]; exact decide_eq_true hm
        have HM := hid hm
        clear hhx hm
        go_upto_region 6 with (at_lookup; refine wpList_lookup_own_unit _ rfl _ _ TMS rfl TU TE lawU Try.underlying145 (zeroE _) w.heap.size k _ rfl HOWN.out _ _ rfl HK.out ?_)
        rw [show wr.alloc (.cells #[] 146) = W1 from HW1.out.symm]
        go_wp2_with fail
        go_ret
        refine ⟨HR.out.fr.trans HFR1.out (fun _ e _ => e), .inr ⟨rfl, not_twice HX.out HM.out⟩⟩
      · have hh : Maps.has D (.int .u64 x) = false := by rw [hhx]; exact decide_eq_false hm
        have HM := hid hm
        clear hhx hm
        go_upto_region 6 with (at_lookup; refine wpList_lookup_own_unit _ rfl _ _ TMS rfl TU TE lawU Try.underlying145 (zeroE _) w.heap.size k _ rfl HOWN.out _ _ rfl HK.out ?_)
        rw [show wr.alloc (.cells #[] 146) = W1 from HW1.out.symm]
        by_cases h0 : o.outer = 0
        · rw [h0] at co
          have H0 := hid h0
          clear h0
          have hkl : k < maxLen := by unfold maxLen; omega
          have HKL := hid hkl
          clear hkl
          go_wp2_with (first
            | (go_at_call 51; refine HF.out.mono ?_; rintro e w2 ⟨rfl, rfl⟩)
            | (at_mapUpdate; refine wpList_mapUpdate_in _ rfl _ _ _ TMS rfl TU TE lawU Try.underlying145 unitElem w.heap.size k _ rfl HOWN1.out HKL.out _ _ _ rfl rfl HK.out _ [] unitElem_mk ?_; intro w3 hown3 hturn3))
          have HT3 := hid hturn3
          have HO3 := hid hown3
          clear hown3 hturn3
          go_roundw
          case rel =>
            have hx := HX.out
            have het : l.take (k + 1) = l.take k ++ [x] := by rw [List.take_add_one, hx]; rfl
            refine ⟨k + 1, by omega, by go_num, ⟨⟨_, HO3.out, fun t => ?_⟩, ?_, ?_, ?_⟩⟩
            · by_cases e : t = x
              · subst e
                rw [has_put_same HOWN.out.isMap (show WideAt.IsKeyLit (Lit.int .u64 t) by trivial), het]
                simp
              · rw [has_put_other (lit_ne e), HH.out t, het]
                simp [e]
            · rw [het]
              have := HR.out.ok.snoc HO.out H0.out (by rw [HE.out]; exact HM.out)
              rwa [HE.out] at this
            · exact (HR.out.fr.trans HFR1.out (fun _ e _ => e)).trans (fr_mapTurned HT3.out) (fun j e hj => by omega)
            · have h1 := HR.out.sz
              have h2 := HFR1.out.size
              have h3 := (fr_mapTurned HT3.out).size
              omega
          case measure => simp [intOf]; omega
        · have d0 : (o.outer == 0) = false := by simpa using h0
          have H0 := hid h0
          clear h0
          go_wp2_with (go_at_call 51; refine HF.out.mono ?_; rintro e w2 ⟨rfl, rfl⟩)
          go_ret
          refine ⟨HR.out.fr.trans HFR1.out (fun _ e _ => e), .inr ⟨rfl, not_inner HI.out HO.out H0.out (by rw [HE.out]; exact HXM.out)⟩⟩
    · have hkn2 : k = n := by omega
      subst hkn2
      go_wp2
      go_ret
      refine ⟨HR.out.fr, .inl ⟨rfl, ?_⟩⟩
      have := HR.out.ok
      rw [HN.out, List.take_length] at this
      exact this
end
end Go.Proofs.Ytmkajdfajcodjaa

namespace Go.Proofs.Ytmkajdfajcodjaa
open Go Go.ChangeShapes Go.WideShapes Go.ChangeAt Go.RowKit Go.Maps

section
variable {w : World} {p pa : Nat} {Sa : Nat → Prop} {AA : Ar} {F : Nat → Lab} {B : Int → Nat} {top : Int} {L : HL}
def RemPost (w : World) (p pa : Nat) (AA : Ar) (F : Nat → Lab) (B : Int → Nat) (top : Int) (L1 : HL) (ws : List Int) (e : Ending) (w' : World) : Prop :=
  ∃ vg vf Lf g f Sa1 AA1 F1, e = .returned (.tuple #[vg, vf, .int .i64 0]) ∧ Told TU u64v w' vg g ∧ Told TU u64v w' vf f ∧ Goes L1 ws Lf g f ∧ HpW w' p pa Sa1 AA1 F1 B top Lf ∧ DrR (er AA) g (er AA1) ∧ (∀ k, k < w.heap.size → F1 k = F k) ∧ FrF F w w' ∧ OwnL w' F1 vg ∧ OwnL w' F1 vf
/-- Some of them wait. -/
def SwpI (w2 : World) (q p pa : Nat) (Sa : Nat → Prop) (AA : Ar) (F2 : Nat → Lab) (B : Int → Nat) (top : Int) (L : HL) (l : List Int) (k : Nat) (W : World) : Prop :=
  ∃ F' wv', HpW W p pa Sa AA F' B top (clr L (l.take k)) ∧ SwW W q p F' wv' (.slice none 0 0) (.slice none 0 0) (l.take k) [] [] ∧ (∀ j, j < w2.heap.size → F' j = F2 j) ∧ FrF F2 w2 W
set_option maxRecDepth 100000 in
set_option maxHeartbeats 4000000 in
theorem Remove_whs (h : HpW w p pa Sa AA F B top L) (hi : HIn top L) (h0 : 0 ≤ top) (htop : top ≤ 4294967295) {b off c : Nat} {l : List Int} (hat : AtL w b off (l.map u64v)) (hb : b < w.heap.size) (hbF : F b = outL) (hl : l.length ≤ 1000) (hc : l.length ≤ c) (hx : ∀ x ∈ l, Hn x) :
    Calls Try.prog 31 #[.pointer (some ⟨p, 0, none⟩), .slice (some ⟨b, off, none⟩) l.length c] w fun e w' =>
      ((∃ x ∈ l, fnd L x = none) ∧ e = .returned (.tuple #[.slice none 0 0, .slice none 0 0, .int .i64 2]) ∧ Fr (fun _ => False) w w') ∨
      ((∀ x ∈ l, ∃ o ∈ L, o.h = x) ∧ ¬ Whs L l ∧ e = .returned (.tuple #[.slice none 0 0, .slice none 0 0, .int .i64 1]) ∧ Fr (fun _ => False) w w') ∨
      (Whs L l ∧ RemPost w p pa AA F B top (clr L l) l e w') := by
  have H := hid h
  have HI := hid hi
  have HAT := hid hat
  have HT0 := hid h0
  have HTOP := hid htop
  have HBF := hid hbF
  have HX := hid hx
  obtain ⟨n, hn⟩ : ∃ n, n = l.length := ⟨_, rfl⟩
  have HN := hid hn
  rw [← hn] at hl hc ⊢
  clear h hi hat hn h0 htop hbF hx
  go_enter Try.func31, Try.ntmps31
  go_wp2
  go_loopw [14] (fun i wr => ∃ k : Nat, k ≤ n ∧ i = .int .i64 k ∧ w = wr ∧ RowKit.Hid (∀ x ∈ l.take k, ∃ o ∈ L, o.h = x)) (fun i _ => n - (intOf i).toNat)
  case atStart => exact ⟨0, Nat.zero_le _, rfl, rfl, fun x hx => by simp at hx⟩
  case round =>
    obtain ⟨k, hk, rfl, rfl, HR⟩ := hrel
    by_cases hkn : k < n
    · have hn := HN.out
      obtain ⟨x, hx⟩ : ∃ x, l[k]? = some x := ⟨_, List.getElem?_eq_getElem (by omega)⟩
      have hxm : x ∈ l := List.mem_of_getElem? hx
      have hcx : w.cell? ⟨b, off + k, none⟩ = some (.int .u64 x) := atl_u64 HAT.out hx
      have HXX := hid hx
      have HXM := hid hxm
      clear hx hxm hn
      cases hf : fnd L x with
      | none =>
        have HF := hid (find_none H.out (fun o ho => fnd_none.1 hf o ho) (HX.out x HXM.out))
        have HFN := hid hf
        clear hf
        go_wp2_with (go_at_call 51; refine HF.out.mono ?_; rintro e w2 ⟨rfl, rfl⟩)
        go_ret3
        exact .inl ⟨⟨x, HXM.out, HFN.out⟩, rfl, Fr.refl _ _⟩
      | some o =>
        obtain ⟨ho, he⟩ := fnd_some hf
        have hF := find_some H.out ho
        rw [he] at hF
        have HF := hid hF
        have HO := hid ho
        have HE := hid he
        clear hF hf ho he
        go_wp2_with (go_at_call 51; refine HF.out.mono ?_; rintro e w2 ⟨rfl, rfl⟩)
        go_roundw
        case rel =>
          have hx := HXX.out
          have het : l.take (k + 1) = l.take k ++ [x] := by rw [List.take_add_one, hx]; rfl
          refine ⟨k + 1, by omega, by go_num, trivial, fun y hy => ?_⟩
          rw [het] at hy
          rcases List.mem_append.1 hy with hy | hy
          · exact HR.out y hy
          · simp at hy
            subst hy
            exact ⟨o, HO.out, HE.out⟩
        case measure => simp [intOf]; omega
    · have hkn2 : k = n := by omega
      subst hkn2
      have hall := HR.out
      rw [HN.out, List.take_length] at hall
      have hlen := HN.out
      have haw := areWholes_any (c := c) H.out HI.out HAT.out hb (by omega) (by omega) hall
      rw [← hlen] at haw
      have HAW := hid haw
      have HALL := hid hall
      clear haw hall hlen
      go_wp2_with fail
      refine HAW.out.mono ?_
      rintro e w1 ⟨hf1, ⟨rfl, hw⟩ | ⟨rfl, hw⟩⟩
      · have HF1 := hid hf1
        have HW := hid hw
        clear hf1 hw
        go_upto_region 10 with fail
        have hf1 := HF1.out
        have h1 := H.out.no hf1
        have hw2e : ∃ w2, w2 = w1.alloc (.cells #[.pointer (some ⟨p, 0, none⟩), .slice none 0 0, .slice none 0 0, .slice none 0 0] 118) := ⟨_, rfl⟩
        obtain ⟨w2, hw2⟩ := hw2e
        have hs2 : SwW w2 w1.heap.size p (nw F w1.heap.size (-2, 0)) (.slice none 0 0) (.slice none 0 0) (.slice none 0 0) [] [] [] := SwW.new (by rw [hw2]; exact heap_alloc_new _ _)
        have hf2 : Fr (fun _ => False) w1 w2 := by rw [hw2]; exact (Fr.refl _ _).alloc _
        have hp2 : HpW w2 p pa Sa AA (nw F w1.heap.size (-2, 0)) B top L := h1.fr hf2 (fun e => e) (fun _ _ e => e) (fun _ _ _ _ _ e => e) (fun _ hk => nw_lt hk)
        obtain ⟨q, hq⟩ : ∃ q, q = w1.heap.size := ⟨_, rfl⟩
        obtain ⟨F2, hF2⟩ : ∃ F2, F2 = nw F q (-2, 0) := ⟨_, rfl⟩
        have hI0 : SwpI w2 q p pa Sa AA F2 B top L l 0 w2 := ⟨F2, _, by rw [hF2, hq]; exact hp2, by rw [hF2, hq]; exact hs2, fun _ _ => rfl, FrF.refl _ _⟩
        have hat2 : AtL w2 b off (l.map u64v) := atl_fr (atl_fr HAT.out hb hf1 (fun e => e)) (Nat.lt_of_lt_of_le hb hf1.size) hf2 (fun e => e)
        have hb2 : b < w2.heap.size := by have := hf1.size; have := hf2.size; omega
        have hbF2 : F2 b = outL := by rw [hF2, nw_lt (by have := hf1.size; omega)]; exact HBF.out
        have hq2 : w1.heap.size = q := hq.symm
        rw [hq2, show w1.alloc (.cells #[.pointer (some ⟨p, 0, none⟩), .slice none 0 0, .slice none 0 0, .slice none 0 0] 118) = w2 from hw2.symm]
        have HF12 := hid hf2
        have HQ := hid hq
        have HFF := hid hF2
        have HI0 := hid hI0
        have HAT2 := hid hat2
        have HB2 := hid hb2
        have HBF2 := hid hbF2
        clear hf1 h1 hw2 hs2 hf2 hp2 hq hF2 hI0 hat2 hb2 hbF2 hq2
        go_wp2
        go_loopw [31] (fun i wr => ∃ j : Nat, j ≤ k ∧ i = .int .i64 j ∧ RowKit.Hid (SwpI w2 q p pa Sa AA F2 B top L l j wr)) (fun i _ => k - (intOf i).toNat)
        case atStart => exact ⟨0, Nat.zero_le _, rfl, HI0⟩
        case round =>
          obtain ⟨j, hj, rfl, HR2⟩ := hrel
          by_cases hjn : j < k
          · have hn := HN.out
            obtain ⟨x, hx⟩ : ∃ x, l[j]? = some x := ⟨_, List.getElem?_eq_getElem (by omega)⟩
            have hxm : x ∈ l := List.mem_of_getElem? hx
            obtain ⟨o, ho, he⟩ := HALL.out x hxm
            obtain ⟨o2, ho2, he2, _, _⟩ := clr_mem (l.take j) ho
            obtain ⟨F', wv', k1, k2, k3, k4⟩ := HR2.out
            have hcx : wr.cell? ⟨b, off + j, none⟩ = some (.int .u64 x) := atl_u64 (atl_fr HAT2.out HB2.out k4 (fun e => e HBF2.out)) hx
            have hwt := wait_any k1 k2 (clr_in HT0.out (l.take j) HI.out).nd ho2 (by rw [List.length_take]; omega)
            rw [he2, he] at hwt
            have het : l.take (j + 1) = l.take j ++ [x] := by rw [List.take_add_one, hx]; rfl
            have HWT := hid hwt
            have K3 := hid k3
            have K4 := hid k4
            have HET := hid het
            clear hn hx hxm ho he ho2 he2 k1 k2 k3 k4 hwt het
            go_wp2_with (refine HWT.out.mono ?_; rintro e w5 ⟨⟨v5, rfl⟩, F5, wv5, m1, m2, m3, m4⟩)
            have M1 := hid m1
            have M2 := hid m2
            have M3 := hid m3
            have M4 := hid m4
            clear m1 m2 m3 m4
            go_roundw
            case rel =>
              have hsz := K4.out.size
              refine ⟨j + 1, by omega, by go_num, F5, wv5, ?_, ?_, fun i hi => ?_, FrF.trans K4.out M4.out (fun i hi => K3.out i hi)⟩
              · rw [HET.out, clr_snoc]; exact M1.out
              · rw [HET.out]; exact M2.out
              · rw [M3.out i (by omega), K3.out i hi]
            case measure => simp [intOf]; omega
          · have hjn2 : j = k := by omega
            subst hjn2
            obtain ⟨F', wv', k1, k2, k3, k4⟩ := HR2.out
            have het : l.take j = l := by rw [HN.out, List.take_length]
            rw [het] at k1 k2
            have hi2 := clr_in HT0.out l HI.out
            have hwq := WQ.clr HW.out.1 HW.out.2
            have hll := H.out.len HI.out.nd
            have hto := totl_le hi2
            rw [clr_len] at hto
            have hrun := run_any k1 k2 hi2 hwq HTOP.out (by rw [clr_len]; simp; omega) (by simp; omega)
            have HRUN := hid hrun
            have K3 := hid k3
            have K4 := hid k4
            clear het k1 k2 k3 k4 hi2 hwq hll hto hrun
            go_wp2_with fail
            refine HRUN.out.mono ?_
            rintro e w3 ⟨⟨v2, rfl⟩, Lf, g, f, Sa3, AA3, F3, wv3, gv3, fv3, m1, m2, m3, m4, m5, m6⟩
            have c2 := m3.c2
            have c3 := m3.c3
            have M1 := hid m1
            have M2 := hid m2
            have M3 := hid m3
            have M4 := hid m4
            have M5 := hid m5
            have M6 := hid m6
            clear m1 m2 m3 m4 m5 m6
            go_wp2
            go_quiet (fail)
            go_wp2
            have hq := HQ.out
            have h1z := HF1.out.size
            have h2z := HF12.out.size
            have h4z := K4.out.size
            have hF2 : ∀ i, i < w.heap.size → F2 i = F i := fun i hi => by rw [HFF.out]; exact nw_lt (by omega)
            have hfr : ∀ nn, FrF F w (w3.drewN nn) := fun nn => Fr.drewN (FrF.trans (FrF.trans (F1 := F2) ((HF1.out.trans HF12.out (fun _ e _ => e)).mono (fun _ e _ => e.elim)) K4.out hF2) M6.out (fun i hi => by rw [K3.out i (by omega)]; exact hF2 i hi)) nn
            have HFR := hid hfr
            clear hfr
            go_ret3
            have t1 : Told TU u64v w3 gv3 g := (⟨by simpa using M3.out.hg, fun _ _ e => e⟩ : RowS TU u64v (fun _ => False) 0 w3 gv3 g).told
            have t2 : Told TU u64v w3 fv3 f := (⟨by simpa using M3.out.hf, fun _ _ e => e⟩ : RowS TU u64v (fun _ => False) 0 w3 fv3 _).told
            refine .inr (.inr ⟨HW.out, gv3, fv3, Lf, g, f, Sa3, AA3, F3, rfl, t1.below (below_drewN (Below.refl _ _) _), t2.below (below_drewN (Below.refl _ _) _), M1.out, M2.out.drewN _, M4.out, fun i hi => ?_, HFR.out _, M3.out.ownL.1, M3.out.ownL.2⟩)
            rw [M5.out i (by omega), K3.out i (by omega)]
            exact hF2 i hi
      · have HF1 := hid hf1
        have HW := hid hw
        clear hf1 hw
        go_wp2
        go_ret3
        exact .inr (.inl ⟨HALL.out, HW.out, rfl, HF1.out⟩)
end
theorem RpH.no {S : Nat → Prop} {w w' : World} {v : Value} {s : Hs} (h : RpH S w v s) (hf : Fr (fun _ => False) w w') : RpH S w' v s :=
  h.keep (fun b hb => hf.block b (by obtain ⟨_, _, _, _, _, _, _, _, _, _, _, h5⟩ := h; exact h5 b hb) (fun e => e)) hf.size
theorem HRemove_any (S : Nat → Prop) (w : World) (v : Value) (s : Hs) (l : List Int) (h : RpH S w v s) {b off c : Nat} (hat : AtL w b off (l.map u64v)) (hb : b < w.heap.size) (hbS : ¬ S b) (hl : l.length ≤ 1000) (hc : l.length ≤ c) (hx : ∀ x ∈ l, Hn x) :
    Calls Try.prog 31 #[v, .slice (some ⟨b, off, none⟩) l.length c] w fun e w' => Fr S w w' ∧
    ∃ s' g f er vg vf, e = .returned (.tuple #[vg, vf, .int .i64 er]) ∧ Told TU u64v w' vg g ∧ Told TU u64v w' vf f ∧ RmR s l s' g f er ∧ RpH (exS S w w') w' v s' ∧ (∀ k, vg.ownBlock = some k → exS S w w' k) ∧ (∀ k, vf.ownBlock = some k → exS S w w' k) := by
  obtain ⟨p, pa, Sa, AA, F, B, rfl, h1, h2, h3, h4, h5⟩ := h
  have hR : RpH S w (.pointer (some ⟨p, 0, none⟩)) s := ⟨p, pa, Sa, AA, F, B, rfl, h1, h2, h3, h4, h5⟩
  have hbF : F b = outL := Classical.byContradiction fun e => hbS (h4 b hb e)
  refine (Remove_whs h1 h3.inv (by have := h3.t1; omega) h3.t2 hat hb hbF hl hc hx).mono ?_
  rintro e w' (⟨⟨x, hx, hf⟩, rfl, hfr⟩ | ⟨ha, hn, rfl, hfr⟩ | ⟨hw, vg, vf, Lf, g, f, Sa1, AA1, F1, rfl, t1, t2, hg, k1, k2, k3, k4, k5, k6⟩)
  · exact ⟨hfr.mono (fun _ e _ => e.elim), s, [], [], 2, _, _, rfl, told_nil _, told_nil _, .stale x hx hf, (hR.no hfr).ex h5 hfr.size, by simp [Value.ownBlock], by simp [Value.ownBlock]⟩
  · exact ⟨hfr.mono (fun _ e _ => e.elim), s, [], [], 1, _, _, rfl, told_nil _, told_nil _, .arg ha hn, (hR.no hfr).ex h5 hfr.size, by simp [Value.ownBlock], by simp [Value.ownBlock]⟩
  · have hrm : RmR s l _ g f 0 := .ok hw.1 hw.2 hg (A' := er AA1) (by rw [h2]; exact k2)
    exact ⟨Fr.mono k4 (fun k hk hl => h4 k hl hk), _, g, f, 0, vg, vf, rfl, t1, t2, hrm, ⟨p, pa, Sa1, AA1, F1, B, rfl, k1, rfl, hrm.hsi h3, exs_lab h4 k3, exs_lt h5 k4.size⟩, k5.exs h4 k3, k6.exs h4 k3⟩
end Go.Proofs.Ytmkajdfajcodjaa
