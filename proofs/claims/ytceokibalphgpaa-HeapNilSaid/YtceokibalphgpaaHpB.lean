/-
  The laws of layer 11: the document's example.
-/
import Derived.Test.YtceokibalphgpaaHpJ
namespace Go.Proofs.Ytceokibalphgpaa
open Go Go.ChangeShapes Go.WideShapes Go.ChangeAt Go.RowKit

theorem put_ok {s s' : Hs} {l : List Int} {last y er : Int} {g f : List Int} (hL : s.L = chn none l ++ [newOb y 0 1]) (hn : (l ++ [y]).Nodup) (hl : l.getLast? = some last) (ht : s.top = 9) (hp : PuR s last 0 ⟨1, y⟩ s' g f er) : er = 0 ∧ g = [] ∧ f = [] := by
  have hnd : Nd s.L := by rw [hL]; unfold Nd; rw [List.map_append, chn_h]; exact hn
  have hnl : l.Nodup := (List.nodup_append.1 hn).1
  obtain ⟨o', ho', hh', hk', hu'⟩ := chn_last l last hl hnl
  have hm' : o' ∈ s.L := by rw [hL]; exact List.mem_append.2 (.inl ho')
  have hfo : fnd s.L last = some o' := by rw [← hh']; exact fnd_mem hnd hm'
  have hmy : newOb y 0 1 ∈ s.L := by rw [hL]; simp
  have hwy : whl s.L y = some (newOb y 0 1) := whl_self hnd hmy rfl
  have HU : ∀ {s1 n e}, UpR s y s1 n e → e = 0 := fun h => by
    cases h with
    | stale hw => rw [hwy] at hw; cases hw
    | top w hw hc => rw [hwy] at hw; cases hw; simp [newOb, ht] at hc
    | ok w hw hc => rfl
  cases hp with
  | stale hf => rw [hfo] at hf; cases hf
  | arg o hf hb => rw [hfo] at hf; cases hf; rw [hk'] at hb; simp at hb
  | no o hf hs hk hu he => exact absurd (HU hu) he
  | obj o hf hs hk hu ho hp ha =>
    rw [hfo] at hf; cases hf
    rw [hk'] at ho
    simp at ho
    subst ho
    obtain ⟨_, e2, e3⟩ := pu_for (by decide) hp
    exact ⟨rfl, e2, by rw [e3]; rfl⟩
  | oth o hf hs hk ho hp ha => simp at hk
theorem down_ok {s s' : Hs} {l : List Int} {last y er : Int} {g f : List Int} (hL : s.L = setl (setc (chn none l ++ [newOb y 0 1]) y 2) last 0 ⟨1, y⟩) (hn : (l ++ [y]).Nodup) (hl : l.getLast? = some last) (hd : DnR s y s' g f er) : er = 0 ∧ g = [] := by
  have hnd : Nd s.L := by rw [hL]; unfold Nd; rw [setl_h, setc_h, List.map_append, chn_h]; exact hn
  have hyl : y ≠ last := fun e => by
    have := (List.nodup_append.1 hn).2.2 last (last_mem hl) y (by simp)
    exact this e.symm
  have hmy : (⟨y, 0, 2, 0, [⟨0, 0⟩], []⟩ : Ob) ∈ s.L := by
    rw [hL]
    refine mem_setl.2 ⟨⟨y, 0, 2, 0, [⟨0, 0⟩], []⟩, mem_setc.2 ⟨newOb y 0 1, by simp, by simp [newOb]⟩, by simp [hyl]⟩
  have h1 := let1_one hnd hmy rfl (by simp)
  have h2 : Dn s.L y (setc s.L y 1) [] [] := ⟨[], by rw [letg_one, h1]; simp; exact Goes.nil _, by rw [letg_one, h1]; rfl⟩
  cases hd with
  | stale hf => exact absurd rfl (fnd_none.1 hf _ hmy)
  | ok o hf hdn hdr =>
    obtain ⟨f2, g2, hf2⟩ := hdn
    obtain ⟨f3, g3, hf3⟩ := h2
    exact ⟨rfl, (g2.same g3).2.1⟩
set_option maxRecDepth 100000 in
set_option maxHeartbeats 8000000 in
/-- The example, by the contracts. -/
theorem awake_by (w0 w : World) (Rp : (Nat → Prop) → World → Value → Hs → Prop) (HC : HeapB w0 Rp) (hB : Below w0.heap.size w0 w) :
    Calls Try.prog 12 #[] w fun e w' => Below w.heap.size w w' ∧ e = .returned (.bool true) := by
  have HCC := hid HC
  have HN := hid (HC.new 4 9 w hB (by simp [Nm]) (by simp [U32]))
  have HB0 := hid hB
  clear HC hB
  go_enter Try.func12, Try.ntmps12
  go_wp2_with fail
  refine HN.out.mono ?_
  rintro e w1 ⟨hb1, hx⟩
  rw [if_pos (by omega)] at hx
  obtain ⟨p, S, rfl, hS, hR⟩ := hx
  obtain ⟨pb, rfl⟩ := HCC.out.ptr hR
  have HB1 := hid hb1
  have HW1 := hid (HB0.out.trans (hb1.mono HB0.out.size))
  have HR1 := hid hR
  have HS1 := hid hS
  clear hb1 hS hR HN
  go_wp2_with fail
  refine (HCC.out.make S w1 _ _ 1 0 HW1.out HR1.out (by simp [Nm]) (by simp [Hn])).mono ?_
  rintro e w2 ⟨hf, s', hh, er, rfl, hmk, hR2⟩
  have hfr0 := frs_new 4 1
  cases hmk with
  | arg h => omega
  | stale h h0 => exact absurd rfl h0
  | inner h h0 => exact absurd rfl h0
  | full h h0 hF => exact absurd hF (hfr0.full (by omega))
  | @ok h h0 ii gg A' hp =>
  obtain ⟨hf1, hii, hgg, hfi⟩ := hfr0.put hp
  obtain ⟨a, ha⟩ : ∃ a, a = hand ii gg := ⟨_, rfl⟩
  rw [← ha] at hR2 ⊢
  have hL2 : addIn ([] : HL) 0 a ++ [newOb a 0 (1 : Int).toNat] = chn none [a] := rfl
  have HB2 := hid (HB1.out.trans (hf.below HB1.out.size HS1.out))
  have HW2 := hid (HB0.out.trans (HB2.out.mono HB0.out.size))
  have HR2 := hid hR2
  have HF2 := hid hf1
  have HS2 := hid (exS_ge (w' := w2) HS1.out HB1.out.size)
  have HL2 := hid hL2
  clear hf hR2 hp h h0 hfr0 ha hii hgg hfi hf1 hL2 HB1 HW1 HR1 HS1
  go_wp2_with fail
  refine (HCC.out.make _ w2 _ _ 1 0 HW2.out HR2.out (by simp [Nm]) (by simp [Hn])).mono ?_
  rintro e w3 ⟨hf, s', hh, er, rfl, hmk, hR3⟩
  cases hmk with
  | arg h => omega
  | stale h h0 => exact absurd rfl h0
  | inner h h0 => exact absurd rfl h0
  | full h h0 hF => exact absurd hF (HF2.out.full (by omega))
  | @ok h h0 ii gg A' hp =>
  obtain ⟨b, hb⟩ : ∃ b, b = hand ii gg := ⟨_, rfl⟩
  rw [← hb] at hR3 ⊢
  have HL3 := hid (show addIn (addIn ([] : HL) 0 a ++ [newOb a 0 (1 : Int).toNat]) 0 b ++ [newOb b 0 (1 : Int).toNat] = chn none [a] ++ [newOb b 0 1] from rfl)
  have hok := HCC.out.ok hR3
  have hnd : ([a] ++ [b]).Nodup := hok.gnd
  have hna : 1 ≤ a ∧ a ≤ 18446744073709551615 := hok.nz a (by simp)
  have hnb : 1 ≤ b ∧ b ≤ 18446744073709551615 := hok.nz b (by simp)
  have HNA := hid (show Hn a by simp only [Hn]; omega)
  have HNB := hid (show Hn b by simp only [Hn]; omega)
  have HND := hid hnd
  have HB3 := hid (HB2.out.trans (hf.below HB2.out.size HS2.out))
  have HW3 := hid (HB0.out.trans (HB3.out.mono HB0.out.size))
  have HR3 := hid hR3
  have HS3 := hid (exS_ge (w' := w3) HS2.out HB2.out.size)
  clear hf hR3 hp h h0 hb hok hnd hna hnb HB2 HW2 HR2 HS2 HF2 HL2
  go_wp2_with fail
  refine (HCC.out.pu _ w3 _ _ a 0 ⟨1, b⟩ HW3.out HR3.out HNA.out (by simp [Nm]) (by simp [Nm]) HNB.out).mono ?_
  rintro e w4 ⟨hf, s4, g, f, er, vg, vf, rfl, htg, htf, hpu, hR4⟩
  obtain ⟨e1, _, _⟩ := put_step (l := [a]) (last := a) HL3.out HND.out rfl rfl hpu
  obtain ⟨rfl, e2, e3⟩ := put_ok (l := [a]) (last := a) HL3.out HND.out rfl rfl hpu
  subst e2 e3
  obtain ⟨ag, cg, hvg, _⟩ := htg.ex
  obtain ⟨af, cf, hvf, _⟩ := htf.ex
  subst hvg hvf
  have HB4 := hid (HB3.out.trans (hf.below HB3.out.size HS3.out))
  have HW4 := hid (HB0.out.trans (HB4.out.mono HB0.out.size))
  have HR4 := hid hR4
  have HS4 := hid (exS_ge (w' := w4) HS3.out HB3.out.size)
  have HL4 := hid e1
  clear hf hR4 hpu e1 htg htf HB3 HW3 HR3 HS3 HL3
  go_wp2_with fail
  refine (HCC.out.dn _ w4 _ s4 b HW4.out HR4.out HNB.out).mono ?_
  rintro e w5 ⟨hf, s5, g, f, er, vg, vf, rfl, htg, htf, hdn, hR5⟩
  obtain ⟨e1, _, _⟩ := down_step (l := [a]) (last := a) HL4.out HND.out rfl hdn
  obtain ⟨rfl, e2⟩ := down_ok (l := [a]) (last := a) HL4.out HND.out rfl hdn
  subst e2
  obtain ⟨ax, cx, hvg, _⟩ := htg.ex
  obtain ⟨ay, cy, hvf, _⟩ := htf.ex
  subst hvg hvf
  have HB5 := hid (HB4.out.trans (hf.below HB4.out.size HS4.out))
  have HW5 := hid (HB0.out.trans (HB5.out.mono HB0.out.size))
  have HR5 := hid hR5
  have HS5 := hid (exS_ge (w' := w5) HS4.out HB4.out.size)
  have HL5 := hid (show s5.L = chn none (a :: [b]) from e1)
  clear hf hR5 hdn e1 htg htf HB4 HW4 HR4 HS4 HL4
  go_wp2_with fail
  refine (HCC.out.dn _ w5 _ s5 a HW5.out HR5.out HNA.out).mono ?_
  rintro e w6 ⟨hf, s6, g6, f6, er, vg, vf, rfl, htg, htf, hdn, hR6⟩
  obtain ⟨rfl, e2, e3, _⟩ := down_chn HL5.out HND.out hdn
  have e2 : g6 = [a, b] := e2
  subst e2 e3
  have HTG := hid htg
  obtain ⟨au, cu, hvg, _⟩ := htg.ex
  obtain ⟨ad, cd, hvf, _⟩ := htf.ex
  rw [show ([a, b] : List Int).length = 2 from rfl] at hvg
  subst hvg hvf
  have HB6 := hid (HB5.out.trans (hf.below HB5.out.size HS5.out))
  clear hf hR6 hdn htg htf HB5 HW5 HR5 HS5 HL5
  go_wp2_with fail
  obtain ⟨w7, hw7⟩ : ∃ x, x = w6.alloc (.cells #[.int .u64 a, .int .u64 b] 34) := ⟨_, rfl⟩
  have hb7 : Below w6.heap.size w6 w7 := by rw [hw7]; exact (Below.refl _ _).alloc (Nat.le_refl _) _
  have hr7 : RowS TU u64v (fun _ => False) w6.heap.size w7 (.slice (some ⟨w6.heap.size, 0, none⟩) 2 2) [a, b] := ⟨by rw [hw7]; exact World.ownsRow_lit w6 #[.int .u64 a, .int .u64 b] 2 (Nat.le_refl _) (by unfold maxLen; omega) rfl, fun _ _ h => h⟩
  rw [← hw7]
  have HB7 := hid (HB6.out.trans (hb7.mono HB6.out.size))
  refine (SameLongs_told w7 _ _ [a, b] (HTG.out.below hb7) hr7.told).mono ?_
  clear hw7 hb7 hr7 HTG HB6
  rintro e w8 ⟨rfl, hb8⟩
  have HB8 := hid (HB7.out.trans (hb8.mono HB7.out.size))
  clear hb8
  go_wp2
  go_ret
  exact ⟨HB8.out, rfl⟩
end Go.Proofs.Ytceokibalphgpaa
