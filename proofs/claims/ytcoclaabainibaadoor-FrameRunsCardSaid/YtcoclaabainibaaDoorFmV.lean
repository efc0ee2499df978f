/-
  A frame beside its plain twin; FrameRuns. (Written by tools/genfmv.py.)
-/
import Derived.Test.YtcoclaabainibaaDoorFmO
import Derived.Test.YtcoclaabainibaaDoorFmTf
import Derived.Test.YtcoclaabainibaaDoorFmTt
namespace Go.Proofs.YtcoclaabainibaaDoor
open Go Go.ChangeShapes Go.WideShapes Go.ChangeAt Go.RowKit

theorem TNext_any {w : World} {S : Nat → Prop} {p : Nat} {f : Fs} {qv sv : Value} (h : TwW w S p f qv sv) (hf : FsR f) (r v : Int) : Calls Tryd.prog 12 #[.pointer (some ⟨p, 0, none⟩), iv r, iv v] w (TnP w S p f r v) := by
  cases ho : f.over with
  | true => exact TNext_over h ho r v
  | false =>
    cases hc : f.calls with
    | true => exact TNext_yes h hf ho hc r v
    | false => exact TNext_no h hf ho hc r v
/-- A frame and its twin, apart from each other and from the blocks X, above a bound. -/
structure PrT (B p1 p2 : Nat) (f1 f2 : Fs) (X : Nat → Prop) (W : World) : Prop where
  ex : ∃ S1 S2 q1 s1 q2 s2, FmW W S1 p1 f1 q1 s1 ∧ TwW W S2 p2 f2 q2 s2 ∧ (∀ k, S1 k → B ≤ k) ∧ (∀ k, S2 k → B ≤ k) ∧ (∀ k, S1 k → ¬ S2 k) ∧ ∀ k, X k → ¬ S1 k ∧ ¬ S2 k ∧ k < W.heap.size
section
variable {B p1 p2 : Nat} {f1 f2 : Fs} {X : Nat → Prop} {W W' : World}
theorem PrT.fr {fp : Nat → Prop} (h : PrT B p1 p2 f1 f2 X W) (hf : Fr fp W W') (hd : ∀ k, B ≤ k → ¬ fp k) : PrT B p1 p2 f1 f2 X W' := by
  obtain ⟨S1, S2, q1, s1, q2, s2, h1, h2, h3, h4, h5, h6⟩ := h.ex
  exact ⟨S1, S2, q1, s1, q2, s2, h1.fr hf (fun k hk => hd k (h3 k hk)), h2.fr hf (fun k hk => hd k (h4 k hk)), h3, h4, h5, fun k hk => ⟨(h6 k hk).1, (h6 k hk).2.1, Nat.lt_of_lt_of_le (h6 k hk).2.2 hf.size⟩⟩
theorem PrT.below (h : PrT B p1 p2 f1 f2 X W) (hb : Below W.heap.size W W') : PrT B p1 p2 f1 f2 X W' := h.fr (Fr.of_below (fp := fun _ => False) hb) (fun _ _ e => e)
theorem PrT.fresh {X2 : Nat → Prop} (h : PrT B p1 p2 f1 f2 X W) (hb : Below W.heap.size W W') (hX : ∀ k, X2 k → X k ∨ (W.heap.size ≤ k ∧ k < W'.heap.size)) : PrT B p1 p2 f1 f2 X2 W' := by
  obtain ⟨S1, S2, q1, s1, q2, s2, h1, h2, h3, h4, h5, h6⟩ := h.ex
  refine ⟨S1, S2, q1, s1, q2, s2, h1.no (Fr.of_below hb), h2.no (Fr.of_below hb), h3, h4, h5, fun k hk => ?_⟩
  rcases hX k hk with e | e
  · exact ⟨(h6 k e).1, (h6 k e).2.1, Nat.lt_of_lt_of_le (h6 k e).2.2 hb.size⟩
  · exact ⟨fun e2 => by have := h1.sl k e2; omega, fun e2 => by have := h2.sl k e2; omega, e.2⟩
theorem PrT.next1 (h : PrT B p1 p2 f1 f2 X W) (hB : B ≤ W.heap.size) (hf : FsR f1) (r v : Int) : Calls Tryd.prog 11 #[.pointer (some ⟨p1, 0, none⟩), iv r, iv v] W fun e w' =>
    e = .returned (.tuple #[.agg (evA (nxE f1 r v)), iv (nxV f1 r v)]) ∧ PrT B p1 p2 (nxF f1 r v) f2 X w' ∧ Fr (fun k => B ≤ k ∧ ¬ X k) W w' := by
  obtain ⟨S1, S2, q1, s1, q2, s2, h1, h2, h3, h4, h5, h6⟩ := h.ex
  refine (FNext_any h1 hf r v).mono ?_
  rintro e w' ⟨rfl, ⟨qv2, sv2, k3⟩, k4⟩
  refine ⟨rfl, ⟨exS S1 W w', S2, qv2, sv2, q2, s2, k3, h2.fr k4 (fun k a b => h5 k b a), fun k hk => ?_, h4, fun k hk e => ?_, fun k hk => ⟨fun e => ?_, (h6 k hk).2.1, Nat.lt_of_lt_of_le (h6 k hk).2.2 k4.size⟩⟩, k4.mono (fun k hk _ => ⟨h3 k hk, fun e => (h6 k e).1 hk⟩)⟩
  · rcases hk with e | e
    · exact h3 k e
    · exact Nat.le_trans hB e.1
  · rcases hk with e2 | e2
    · exact h5 k e2 e
    · have := h2.sl k e; omega
  · rcases e with e2 | e2
    · exact (h6 k hk).1 e2
    · have := (h6 k hk).2.2; omega
theorem PrT.next2 (h : PrT B p1 p2 f1 f2 X W) (hB : B ≤ W.heap.size) (hf : FsR f2) (r v : Int) : Calls Tryd.prog 12 #[.pointer (some ⟨p2, 0, none⟩), iv r, iv v] W fun e w' =>
    e = .returned (.tuple #[.agg (evA (nxE f2 r v)), iv (nxV f2 r v)]) ∧ PrT B p1 p2 f1 (nxF f2 r v) X w' ∧ Fr (fun k => B ≤ k ∧ ¬ X k) W w' := by
  obtain ⟨S1, S2, q1, s1, q2, s2, h1, h2, h3, h4, h5, h6⟩ := h.ex
  refine (TNext_any h2 hf r v).mono ?_
  rintro e w' ⟨rfl, ⟨qv2, sv2, k3⟩, k4⟩
  refine ⟨rfl, ⟨S1, exS S2 W w', q1, s1, qv2, sv2, h1.fr k4 (fun k a b => h5 k a b), k3, h3, fun k hk => ?_, fun k hk e => ?_, fun k hk => ⟨(h6 k hk).1, fun e => ?_, Nat.lt_of_lt_of_le (h6 k hk).2.2 k4.size⟩⟩, k4.mono (fun k hk _ => ⟨h4 k hk, fun e => (h6 k e).2.1 hk⟩)⟩
  · rcases hk with e | e
    · exact h4 k e
    · exact Nat.le_trans hB e.1
  · rcases e with e2 | e2
    · exact h5 k hk e2
    · have := h1.sl k hk; omega
  · rcases e with e2 | e2
    · exact (h6 k hk).2.1 e2
    · have := (h6 k hk).2.2; omega
theorem PrT.q (h : PrT B p1 p2 f1 f2 X W) : StQ W (.pointer (some ⟨p1, 0, none⟩)) f1.st := by
  obtain ⟨S1, S2, q1, s1, q2, s2, h1, h2, h3, h4, h5⟩ := h.ex
  exact .inr ⟨p1, S1, f1, q1, s1, rfl, h1, rfl⟩
theorem PrT.at_ (h : PrT B p1 p2 f1 f2 X W) : Calls Tryd.prog 13 #[.pointer (some ⟨p1, 0, none⟩)] W fun e w' => e = .returned (nI f1.p) ∧ W = w' := by
  obtain ⟨S1, S2, q1, s1, q2, s2, h1, h2, h3, h4, h5⟩ := h.ex
  exact At_any h1
/-- What is read of the twin. -/
theorem PrT.tw (h : PrT B p1 p2 f1 f2 X W) : ∃ a c, W.cell? ⟨p2, 2, none⟩ = some (nI f2.p) ∧ W.cell? ⟨p2, 3, none⟩ = some (.slice a f2.st.length c) ∧ Tl iv W.heap.size W (.slice a f2.st.length c) f2.st := by
  obtain ⟨S1, S2, q1, s1, q2, s2, h1, h2, h3, h4, h5⟩ := h.ex
  obtain ⟨a, c, e⟩ := own_form h2.row
  have h6 := own_told h2.row
  subst e
  exact ⟨a, c, h2.c2, h2.c3, h6⟩
/-- The twin is made behind the frame. -/
theorem PrT.new {S1 : Nat → Prop} {q1 s1 : Value} {ls : List Ins} {arg : Int} {n : Nat} {u : Value} {W1 W2 : World} (h1 : FmW W1 S1 p1 f1 q1 s1) (hB1 : ∀ k, S1 k → B ≤ k) (hb : Below W1.heap.size W1 W2) (hu : W2.ownsRow W1.heap.size TIn 3 u n (ls.flatMap insc)) (hn : n = ls.length) (hB : B ≤ W1.heap.size) : PrT B p1 W2.heap.size f1 (fs0 ls arg) (fun _ => False) (W2.alloc (.cells #[u, iv arg, .int .i64 0, .slice none 0 0, .bool false, .bool false] TTw)) := by
  have h2 : Fr (fun _ => False) W1 (W2.alloc (.cells #[u, iv arg, .int .i64 0, .slice none 0 0, .bool false, .bool false] TTw)) := (Fr.of_below hb).alloc _
  subst hn
  refine ⟨S1, (fun k => W1.heap.size ≤ k ∧ k < W2.heap.size + 1), q1, s1, u, .slice none 0 0, h1.no h2, ⟨heap_alloc_new _ _, (own_base (Nat.zero_le _) hu).alloc _, World.ownsRow_nil _ _ _ _, ⟨hb.size, by omega⟩, fun k hk => ?_, fun k hk => (by cases hk), fun k hk => by simp; omega⟩, hB1, fun k hk => Nat.le_trans hB hk.1, fun k a b => by have := h1.sl k a; omega, fun k hk => hk.elim⟩
  have := hu.lt k hk
  exact ⟨this.1, by omega⟩
end
/-- Between two rounds. -/
structure RuI (w : World) (p1 p2 : Nat) (f : Fs) (wr : World) : Prop where
  fm : PrT w.heap.size p1 p2 f f (fun _ => False) wr
  ok : FsR f
  bl : Below w.heap.size w wr
set_option maxRecDepth 100000 in
set_option maxHeartbeats 16000000 in
theorem FrameRuns_any {w : World} (hT : TabB w) (ls : List Ins) (ad : Option Addr) (n c : Nat) (arg : Int) (rv vv : Value) (rs vs : List Int) (hok : ∀ x ∈ ls, InsOk x) (hR : RwI w w.heap.size ad ls) (hn : n = ls.length) (hc : n ≤ c) (hc2 : c ≤ 9223372036854775807) (hN : NilOk (.slice ad n c)) (hrs : Tl iv w.heap.size w rv rs) (hvs : Tl iv w.heap.size w vv vs) :
    Calls Tryd.prog 3 #[.slice ad n c, iv arg, rv, vv] w fun e w' => e = .returned (.bool true) ∧ Below w.heap.size w w' := by
  obtain ⟨ra, rk, rfl, _, _, hra⟩ := hrs.ex
  obtain ⟨va, vk, rfl, _, _, hva⟩ := hvs.ex
  obtain ⟨nr, hnr⟩ : ∃ nr, nr = rs.length := ⟨_, rfl⟩
  obtain ⟨nv, hnv⟩ : ∃ nv, nv = vs.length := ⟨_, rfl⟩
  rw [← hnr] at hra ⊢
  rw [← hnv] at hva ⊢
  have HRS := hid (fun (W : World) (hb : Below w.heap.size w W) (j : Nat) (hj : j < nr) => show ∃ b o x, ra = some ⟨b, o, none⟩ ∧ W.cell? ⟨b, o + j, none⟩ = some (iv x) from by
    obtain ⟨b, o, h1, h2, h3⟩ := hra (by omega)
    have hx := List.getElem?_eq_getElem (l := rs) (i := j) (by omega)
    exact ⟨b, o, _, h1, (World.cell?_of_block (w := w) (w' := W) (a := ⟨b, o + j, none⟩) (hb.block b h2)).trans (h3 j _ hx)⟩)
  have HVS := hid (fun (W : World) (hb : Below w.heap.size w W) (j : Nat) (hj : j < nv) => show ∃ b o x, va = some ⟨b, o, none⟩ ∧ W.cell? ⟨b, o + j, none⟩ = some (iv x) from by
    obtain ⟨b, o, h1, h2, h3⟩ := hva (by omega)
    have hx := List.getElem?_eq_getElem (l := vs) (i := j) (by omega)
    exact ⟨b, o, _, h1, (World.cell?_of_block (w := w) (w' := W) (a := ⟨b, o + j, none⟩) (hb.block b h2)).trans (h3 j _ hx)⟩)
  clear hrs hvs hra hva hnr hnv
  have HA := hid (awake_holds hT)
  have HR := hid hR
  have HN := hid hn
  have HNK := hid hN
  obtain ⟨er, her⟩ : ∃ er, er = (checkP ls 8).2.2 := ⟨_, rfl⟩
  have HER := hid her
  have HNEW := hid (New_u (arg := arg) her ad n c hT hok hR hn hc hc2)
  have HHT := hid (fun (W : World) (hb : Below w.heap.size w W) => Height_any ls 8 ad n c W (hR.on hb) hn ⟨hc, hc2⟩)
  unfold HtP at HHT
  rw [← check_err, ← her] at HHT
  clear hT hok hR hn hN her
  by_cases h60 : 60 < n
  · have d1 : decide ((60 : Int) < (n : Int)) = true := decide_eq_true (by omega)
    clear h60
    go_enter Tryd.func3, Tryd.ntmps3
    go_wp2_with (first
      | (go_at_call 8; refine (HA.out _ (Below.refl _ _)).mono ?_; rintro e w7 ⟨rfl, hb7⟩; have HB7 := hid hb7; clear hb7)
      | fail)
    go_ret
    exact ⟨rfl, HB7.out⟩
  have d1 : decide ((60 : Int) < (n : Int)) = false := decide_eq_false (by omega)
  go_enter Tryd.func3, Tryd.ntmps3
  go_wp2_with fail
  refine HNEW.out.mono ?_
  rintro e w2 ⟨hb2, fv, rfl, hf1, hf2⟩
  have HB2 := hid hb2
  have HF1 := hid hf1
  have HF2 := hid hf2
  clear hb2 hf1 hf2 HNEW
  go_wp2_with fail
  refine (HHT.out _ HB2.out).mono ?_
  rintro e w3 ⟨ha, hk, rfl, _, hb3, _⟩
  have HB3 := hid (HB2.out.trans (hb3.mono HB2.out.size))
  have HB23 := hid hb3
  clear hb3 HHT
  by_cases h0 : er = 0
  case neg =>
    have d2 : (er != 0) = true := by simpa using h0
    obtain rfl := HF2.out h0
    have d3 : (er == er) = true := by simp
    clear h0 HF1 HF2
    go_wp2_with (first
      | (go_at_call 8; refine (HA.out _ HB3.out).mono ?_; rintro e w7 ⟨rfl, hb7⟩; have HB7 := hid (HB3.out.trans (hb7.mono HB3.out.size)); clear hb7)
      | fail)
    go_ret
    exact ⟨rfl, HB7.out⟩
  subst h0
  obtain ⟨p1, S1, q1, s1, rfl, hS1, hF1⟩ := HF1.out rfl
  have HS1 := hid hS1
  have HFM := hid (hF1.no (Fr.of_below HB23.out))
  have HOK0 := hid (fs0_ok arg HER.out.symm)
  clear hS1 hF1 HF1 HF2
  obtain ⟨w4, hw4⟩ : ∃ w4, w4 = w3.alloc (.cells #[] TIn) := ⟨_, rfl⟩
  have hb4 : Below w3.heap.size w3 w4 := by rw [hw4]; exact (Below.refl _ _).alloc (Nat.le_refl _) _
  have hown4 : w4.ownsRow w3.heap.size TIn 3 (.slice (some ⟨w3.heap.size, 0, none⟩) 0 0) 0 [] := by rw [hw4]; exact World.ownsRow_made w3 #[] 0 (Nat.le_refl _) (Nat.zero_le _) rfl
  have hR4 := HR.out.on (HB3.out.trans (hb4.mono HB3.out.size))
  have HW4 := hid hw4
  have HB4 := hid hb4
  have HO4 := hid hown4
  have HR4 := hid hR4
  clear hw4 hb4 hown4 hR4
  go_wp2_with (first
    | ((with_reducible refine at_op ⟨some 54, _, _, _, _, _⟩ ?_); rw [← HW4.out]; go_loud (refine wpList_appI rfl (.tmp 52) (.tmp 53) rfl w3.heap.size w3.heap.size rfl HO4.out ad n c ls rfl HNK.out HR4.out HN.out (by omega) HB4.out.size ?_); intro v5 w5 k1 k2; obtain ⟨ca, cc, hv5⟩ := own_form k1; subst hv5; have hb5 := HB4.out.grown k2 HB4.out.size (fun k hk => by cases hk; exact Nat.le_refl _); have HP5 := hid (PrT.new (arg := arg) HFM.out HS1.out hb5 k1 HN.out HB3.out.size); have HB5 := hid (HB3.out.trans (hb5.mono HB3.out.size)); clear k1 k2 hb5)
    | fail)
  have HI0 := hid (show RuI w p1 w5.heap.size (fs0 ls arg) (w5.alloc (.cells #[.slice ca n cc, iv arg, .int .i64 0, .slice none 0 0, .bool false, .bool false] TTw)) from ⟨HP5.out, HOK0.out, HB5.out.alloc HB5.out.size _⟩)
  obtain ⟨p2, hp2⟩ : ∃ p2, p2 = w5.heap.size := ⟨_, rfl⟩
  rw [← hp2] at HI0 ⊢
  clear HFM HS1 HP5 HO4 HR4 HW4 HB4 hp2
  go_loopw [15, 16, 17] (fun xr xv i wx => ∃ (q : Nat) (r v : Int) (f : Fs), q ≤ 40 ∧ i = .int .i64 q ∧ xr = iv r ∧ xv = iv v ∧ RowKit.Hid (RuI w p1 p2 f wx)) (fun _ _ i _ => 40 - (intOf i).toNat)
  case atStart => exact ⟨0, 0, 0, fs0 ls arg, by omega, rfl, rfl, rfl, HI0⟩
  case round =>
    obtain ⟨q, r, v, f, hq, rfl, rfl, rfl, HI⟩ := hrel
    by_cases hq4 : q < 40
    · have dq : decide ((q : Int) < 40) = true := decide_eq_true (by omega)
      by_cases hqr : q < nr
      · obtain ⟨rb, ro, rx, rfl, cr⟩ := HRS.out wr HI.out.bl q hqr
        have dr : decide ((q : Int) < (nr : Int)) = true := decide_eq_true (by omega)
        by_cases hqv : q < nv
        · obtain ⟨vb, vo, vx, rfl, cv⟩ := HVS.out wr HI.out.bl q hqv
          have dv : decide ((q : Int) < (nv : Int)) = true := decide_eq_true (by omega)
          as_aux_lemma =>
            have HNX := hid (HI.out.fm.next1 HI.out.bl.size HI.out.ok rx vx)
            obtain ⟨ev, hev⟩ : ∃ ev, ev = nxE f rx vx := ⟨_, rfl⟩
            obtain ⟨z2, hz2⟩ : ∃ z2, z2 = nxV f rx vx := ⟨_, rfl⟩
            obtain ⟨f2, hf2⟩ : ∃ f2, f2 = nxF f rx vx := ⟨_, rfl⟩
            have HOK2 := hid (show FsR f2 by rw [hf2]; exact HI.out.ok.next rx vx)
            have HNY := hid (fun (W : World) (X : Nat → Prop) (h : PrT w.heap.size p1 p2 f2 f X W) (hB : w.heap.size ≤ W.heap.size) => h.next2 hB HI.out.ok rx vx)
            rw [← hev, ← hz2, ← hf2] at HNX
            rw [← hev, ← hz2, ← hf2] at HNY
            have HDP := hid HOK2.out.deep
            have dz : (z2 != z2) = false := by simp
            have dne : (!eqE ev ev) = false := by rw [eqE_iff.2 rfl]; rfl
            have HDN := hid dne
            clear hev hz2 hf2 dne
            go_upto_region 19 with (first
              | (go_at_call 11; refine HNX.out.mono ?_; rintro e w5 ⟨rfl, hF5, hf5⟩; obtain ⟨w6, hw6⟩ : ∃ w6, w6 = (w5.alloc (.cells #[.int .i64 0, .int .i64 0, .int .i64 0, .int .i64 0, .int .i64 0] TEv)).setRow w5.heap.size (evA ev) := ⟨_, rfl⟩; have hg6 : w6.heap[w5.heap.size]? = some (.cells (evA ev) TEv (0, 0)) := (by rw [hw6]; exact setRow_heap _ _ _ _ _ _ (heap_alloc_new _ _)); have hb56 : Below w5.heap.size w5 w6 := (by rw [hw6]; exact below_setRow ((Below.refl _ _).alloc (Nat.le_refl _) _) _ _ (Nat.le_refl _)); have HW6 := hid hw6; have HF6 := hid (hF5.fresh (X2 := fun k => k = w5.heap.size) hb56 (fun k hk => .inr ⟨by omega, by rw [hk]; exact (Array.getElem?_eq_some_iff.1 hg6).1⟩)); have HB6 := hid ((HI.out.bl.trans (hf5.below HI.out.bl.size (fun k hk => hk.1))).trans (hb56.mono (Nat.le_trans HI.out.bl.size hf5.size))); have HG6 := hid hg6; clear hF5 hf5 hw6 hb56 hg6)
              | ((with_reducible refine at_op ⟨none, .store TEv (.tmp 18) (.tmp 83), _, _, _, _⟩ ?_); refine wpList_store_row rfl TEv _ _ rfl w5.heap.size (evA ev) rfl rfl TEv (evA evZ) (heap_alloc_new _ _) szEv rfl (evA_one _) ?_; rw [← HW6.out])
              | fail)
            have HNY2 := hid (HNY.out w6 _ HF6.out HB6.out.size)
            have hgl6 : w5.heap.size < w6.heap.size := (Array.getElem?_eq_some_iff.1 HG6.out).1
            clear HNX HNY
            go_upto_region 20 with (first
              | (go_at_call 12; refine HNY2.out.mono ?_; rintro e w7 ⟨rfl, hF7, hf7⟩; obtain ⟨w8, hw8⟩ : ∃ w8, w8 = (w7.alloc (.cells #[.int .i64 0, .int .i64 0, .int .i64 0, .int .i64 0, .int .i64 0] TEv)).setRow w7.heap.size (evA ev) := ⟨_, rfl⟩; have hg8 : w8.heap[w7.heap.size]? = some (.cells (evA ev) TEv (0, 0)) := (by rw [hw8]; exact setRow_heap _ _ _ _ _ _ (heap_alloc_new _ _)); have hb78 : Below w7.heap.size w7 w8 := (by rw [hw8]; exact below_setRow ((Below.refl _ _).alloc (Nat.le_refl _) _) _ _ (Nat.le_refl _)); have hga : w8.heap[w5.heap.size]? = some (.cells (evA ev) TEv (0, 0)) := ((hb78.block _ (Nat.lt_of_lt_of_le hgl6 hf7.size)).trans (hf7.block _ hgl6 (fun e => e.2 rfl))).trans HG6.out; have HW8 := hid hw8; have HF8 := hid (hF7.fresh (X2 := fun _ => False) hb78 (fun k hk => hk.elim)); have HB8 := hid ((HB6.out.trans (hf7.below HB6.out.size (fun k hk => hk.1))).trans (hb78.mono (Nat.le_trans HB6.out.size hf7.size))); have HG8 := hid hg8; have HGA := hid hga; clear hF7 hf7 hw8 hb78 hg8 hga)
              | ((with_reducible refine at_op ⟨none, .store TEv (.tmp 20) (.tmp 90), _, _, _, _⟩ ?_); refine wpList_store_row rfl TEv _ _ rfl w7.heap.size (evA ev) rfl rfl TEv (evA evZ) (heap_alloc_new _ _) szEv rfl (evA_one _) ?_; rw [← HW8.out])
              | fail)
            clear HNY2 HW6 HW8
            obtain ⟨wd, hwd⟩ : ∃ wd, wd = w8.drew := ⟨_, rfl⟩
            have hfd : Fr (fun _ => False) w8 wd := by rw [hwd]; exact (Fr.refl _ _).drew
            have hfdb : Below w8.heap.size w8 wd := by rw [hwd]; exact ⟨rfl, rfl, rfl, Nat.le_refl _, fun _ _ => rfl⟩
            have HFD := hid (HF8.out.below hfdb)
            have HBD := hid (HB8.out.trans (hfdb.mono HB8.out.size))
            have hga : wd.heap[w5.heap.size]? = some (.cells (evA ev) TEv (0, 0)) := (hfdb.block _ (Array.getElem?_eq_some_iff.1 HGA.out).1).trans HGA.out
            have hgb : wd.heap[w7.heap.size]? = some (.cells (evA ev) TEv (0, 0)) := (hfdb.block _ (Array.getElem?_eq_some_iff.1 HG8.out).1).trans HG8.out
            obtain ⟨ta, tc, t2, t3, t4⟩ := HFD.out.tw
            obtain ⟨ln, hln⟩ : ∃ ln, ln = f2.st.length := ⟨_, rfl⟩
            obtain ⟨fp, hfp⟩ : ∃ fp, fp = f2.p := ⟨_, rfl⟩
            rw [← hln] at t3 t4
            rw [← hfp] at t2
            have HAT := hid HFD.out.at_
            rw [← hfp] at HAT
            have HTW := hid t4
            have HSA := hid (stack_sl (n := ln) (m := 99) HFD.out.q HDP.out (by omega) hln)
            have dfp : ((fp : Int) != (fp : Int)) = false := by simp
            have keep : ∀ W, Below wd.heap.size wd W → W.heap[w5.heap.size]? = some (.cells (evA ev) TEv (0, 0)) ∧ W.heap[w7.heap.size]? = some (.cells (evA ev) TEv (0, 0)) ∧ W.cell? ⟨p2, 2, none⟩ = some (nI fp) ∧ W.cell? ⟨p2, 3, none⟩ = some (.slice ta ln tc) := fun W hW =>
              ⟨(hW.block _ (Array.getElem?_eq_some_iff.1 hga).1).trans hga, (hW.block _ (Array.getElem?_eq_some_iff.1 hgb).1).trans hgb, (World.cell?_of_block (w := wd) (w' := W) (a := ⟨p2, 2, none⟩) (hW.block p2 (World.block_lt_of_cell? wd _ t2))).trans t2, (World.cell?_of_block (w := wd) (w' := W) (a := ⟨p2, 3, none⟩) (hW.block p2 (World.block_lt_of_cell? wd _ t3))).trans t3⟩
            have HKP := hid keep
            clear keep hga hgb t2 t3 t4 hln hfp hfd hfdb HF8 HB8 HG8 HGA
            refine D.wp_region_mix [1, 1, 0, 0, 0, 0, 0, 0, 0, 0, 2, 0, 0, 0, 1, 0, 0, 0, 0, 2, 0, 0, 0, 1, 2, 0, 0] (fun W => W.heap[w5.heap.size]? = some (.cells (evA ev) TEv (0, 0)) ∧ W.heap[w7.heap.size]? = some (.cells (evA ev) TEv (0, 0)) ∧ W.cell? ⟨p2, 2, none⟩ = some (nI fp) ∧ W.cell? ⟨p2, 3, none⟩ = some (.slice ta ln tc)) (by kernel_rfl) (by kernel_rfl) (by rw [← hwd]; exact HKP.out wd (Below.refl _ _)) ?_
            rw [← hwd]
            clear hwd
            repeat (first
              | ((with_reducible refine C.atM ⟨some 92, _, _, _, _, _⟩ ?_); refine C.wpMix_read (.agg (evA ev)) rfl rfl (fun W hS => load_ev rfl rfl hS.1) ?_; simp only [Act.put, List.setIfInBounds_toArray, List.set_cons_zero, List.set_cons_succ])
              | ((with_reducible refine C.atM ⟨some 93, _, _, _, _, _⟩ ?_); refine C.wpMix_read (.agg (evA ev)) rfl rfl (fun W hS => load_ev rfl rfl hS.2.1) ?_; simp only [Act.put, List.setIfInBounds_toArray, List.set_cons_zero, List.set_cons_succ])
              | ((with_reducible refine C.atM ⟨some 94, _, _, _, _, _⟩ ?_); refine C.wpMix_value (.bool false) rfl rfl (fun W => by rw [exec_neEv (x := ev) (y := ev) rfl rfl rfl, HDN.out]) ?_; simp only [Act.put, List.setIfInBounds_toArray, List.set_cons_zero, List.set_cons_succ])
              | ((with_reducible refine C.atM ⟨some 102, _, _, _, _, _⟩ ?_); refine C.wpMix_call 13 #[.pointer (some ⟨p1, 0, none⟩)] (by decide) rfl (by go_simp) ?_; refine HAT.out.mono ?_; rintro e wA ⟨rfl, hwA⟩; subst hwA; refine ⟨_, rfl, fun _ => HKP.out wd (Below.refl _ _), ?_⟩; simp only [Act.put, List.setIfInBounds_toArray, List.set_cons_zero, List.set_cons_succ])
              | ((with_reducible refine C.atM ⟨some 111, _, _, _, _, _⟩ ?_); refine C.wpMix_call 15 #[.pointer (some ⟨p1, 0, none⟩), .int .i64 99] (by decide) rfl (by go_simp) ?_; refine HSA.out.mono ?_; rintro e wB ⟨hbB, ua, uc, rfl, _, hu⟩; refine ⟨_, rfl, fun _ => HKP.out wB hbB, ?_⟩; have HTU := hid hu; have HTV := hid ((HTW.out.below hbB).up hbB.size); have HBC := hid hbB; clear hbB hu; simp only [Act.put, List.setIfInBounds_toArray, List.set_cons_zero, List.set_cons_succ])
              | ((with_reducible refine C.atM ⟨some 116, _, _, _, _, _⟩ ?_); refine C.wpMix_call 14 #[.slice ua ln uc, .slice ta ln tc] (by decide) rfl (by go_simp) ?_; refine (same_tl wB _ _ _ HTU.out HTV.out).mono ?_; rintro e wD ⟨rfl, hbD⟩; have hbE : Below wd.heap.size wd wD := HBC.out.trans (hbD.mono HBC.out.size); refine ⟨_, rfl, fun _ => HKP.out wD hbE, ?_⟩; have HBE := hid hbE; clear hbD hbE; simp only [Act.put, List.setIfInBounds_toArray, List.set_cons_zero, List.set_cons_succ])
              | (refine' C.wpMix_value _ rfl rfl _ _; rotate_left; (solve | (intro W; go_simp) | (intro W; go_simp; with_reducible rfl)); simp only [Act.put, List.setIfInBounds_toArray, List.set_cons_zero, List.set_cons_succ])
              | (refine' C.wpMix_read _ rfl rfl _ _; rotate_left; (solve | (rintro W ⟨_, _, h1, h2⟩; go_simp) | (rintro W ⟨_, _, h1, h2⟩; go_simp; with_reducible rfl)); simp only [Act.put, List.setIfInBounds_toArray, List.set_cons_zero, List.set_cons_succ]))
            refine C.wpMix_end ?_
            have HI6 := hid (show RuI w p1 p2 f2 wD from ⟨HFD.out.below HBE.out, HOK2.out, HBD.out.trans (HBE.out.mono HBD.out.size)⟩)
            clear HSA HAT HFD HBD HTU HTV HTW HKP
            go_wp2_with fail
            go_roundw
            case rel => exact ⟨q + 1, rx, z2, f2, by omega, by go_num, rfl, rfl, HI6⟩
            case measure => simp [intOf]; omega
        · have dv : decide ((q : Int) < (nv : Int)) = false := decide_eq_false (by omega)
          as_aux_lemma =>
            have HNX := hid (HI.out.fm.next1 HI.out.bl.size HI.out.ok rx v)
            obtain ⟨ev, hev⟩ : ∃ ev, ev = nxE f rx v := ⟨_, rfl⟩
            obtain ⟨z2, hz2⟩ : ∃ z2, z2 = nxV f rx v := ⟨_, rfl⟩
            obtain ⟨f2, hf2⟩ : ∃ f2, f2 = nxF f rx v := ⟨_, rfl⟩
            have HOK2 := hid (show FsR f2 by rw [hf2]; exact HI.out.ok.next rx v)
            have HNY := hid (fun (W : World) (X : Nat → Prop) (h : PrT w.heap.size p1 p2 f2 f X W) (hB : w.heap.size ≤ W.heap.size) => h.next2 hB HI.out.ok rx v)
            rw [← hev, ← hz2, ← hf2] at HNX
            rw [← hev, ← hz2, ← hf2] at HNY
            have HDP := hid HOK2.out.deep
            have dz : (z2 != z2) = false := by simp
            have dne : (!eqE ev ev) = false := by rw [eqE_iff.2 rfl]; rfl
            have HDN := hid dne
            clear hev hz2 hf2 dne
            go_upto_region 19 with (first
              | (go_at_call 11; refine HNX.out.mono ?_; rintro e w5 ⟨rfl, hF5, hf5⟩; obtain ⟨w6, hw6⟩ : ∃ w6, w6 = (w5.alloc (.cells #[.int .i64 0, .int .i64 0, .int .i64 0, .int .i64 0, .int .i64 0] TEv)).setRow w5.heap.size (evA ev) := ⟨_, rfl⟩; have hg6 : w6.heap[w5.heap.size]? = some (.cells (evA ev) TEv (0, 0)) := (by rw [hw6]; exact setRow_heap _ _ _ _ _ _ (heap_alloc_new _ _)); have hb56 : Below w5.heap.size w5 w6 := (by rw [hw6]; exact below_setRow ((Below.refl _ _).alloc (Nat.le_refl _) _) _ _ (Nat.le_refl _)); have HW6 := hid hw6; have HF6 := hid (hF5.fresh (X2 := fun k => k = w5.heap.size) hb56 (fun k hk => .inr ⟨by omega, by rw [hk]; exact (Array.getElem?_eq_some_iff.1 hg6).1⟩)); have HB6 := hid ((HI.out.bl.trans (hf5.below HI.out.bl.size (fun k hk => hk.1))).trans (hb56.mono (Nat.le_trans HI.out.bl.size hf5.size))); have HG6 := hid hg6; clear hF5 hf5 hw6 hb56 hg6)
              | ((with_reducible refine at_op ⟨none, .store TEv (.tmp 18) (.tmp 83), _, _, _, _⟩ ?_); refine wpList_store_row rfl TEv _ _ rfl w5.heap.size (evA ev) rfl rfl TEv (evA evZ) (heap_alloc_new _ _) szEv rfl (evA_one _) ?_; rw [← HW6.out])
              | fail)
            have HNY2 := hid (HNY.out w6 _ HF6.out HB6.out.size)
            have hgl6 : w5.heap.size < w6.heap.size := (Array.getElem?_eq_some_iff.1 HG6.out).1
            clear HNX HNY
            go_upto_region 20 with (first
              | (go_at_call 12; refine HNY2.out.mono ?_; rintro e w7 ⟨rfl, hF7, hf7⟩; obtain ⟨w8, hw8⟩ : ∃ w8, w8 = (w7.alloc (.cells #[.int .i64 0, .int .i64 0, .int .i64 0, .int .i64 0, .int .i64 0] TEv)).setRow w7.heap.size (evA ev) := ⟨_, rfl⟩; have hg8 : w8.heap[w7.heap.size]? = some (.cells (evA ev) TEv (0, 0)) := (by rw [hw8]; exact setRow_heap _ _ _ _ _ _ (heap_alloc_new _ _)); have hb78 : Below w7.heap.size w7 w8 := (by rw [hw8]; exact below_setRow ((Below.refl _ _).alloc (Nat.le_refl _) _) _ _ (Nat.le_refl _)); have hga : w8.heap[w5.heap.size]? = some (.cells (evA ev) TEv (0, 0)) := ((hb78.block _ (Nat.lt_of_lt_of_le hgl6 hf7.size)).trans (hf7.block _ hgl6 (fun e => e.2 rfl))).trans HG6.out; have HW8 := hid hw8; have HF8 := hid (hF7.fresh (X2 := fun _ => False) hb78 (fun k hk => hk.elim)); have HB8 := hid ((HB6.out.trans (hf7.below HB6.out.size (fun k hk => hk.1))).trans (hb78.mono (Nat.le_trans HB6.out.size hf7.size))); have HG8 := hid hg8; have HGA := hid hga; clear hF7 hf7 hw8 hb78 hg8 hga)
              | ((with_reducible refine at_op ⟨none, .store TEv (.tmp 20) (.tmp 90), _, _, _, _⟩ ?_); refine wpList_store_row rfl TEv _ _ rfl w7.heap.size (evA ev) rfl rfl TEv (evA evZ) (heap_alloc_new _ _) szEv rfl (evA_one _) ?_; rw [← HW8.out])
              | fail)
            clear HNY2 HW6 HW8
            obtain ⟨wd, hwd⟩ : ∃ wd, wd = w8.drew := ⟨_, rfl⟩
            have hfd : Fr (fun _ => False) w8 wd := by rw [hwd]; exact (Fr.refl _ _).drew
            have hfdb : Below w8.heap.size w8 wd := by rw [hwd]; exact ⟨rfl, rfl, rfl, Nat.le_refl _, fun _ _ => rfl⟩
            have HFD := hid (HF8.out.below hfdb)
            have HBD := hid (HB8.out.trans (hfdb.mono HB8.out.size))
            have hga : wd.heap[w5.heap.size]? = some (.cells (evA ev) TEv (0, 0)) := (hfdb.block _ (Array.getElem?_eq_some_iff.1 HGA.out).1).trans HGA.out
            have hgb : wd.heap[w7.heap.size]? = some (.cells (evA ev) TEv (0, 0)) := (hfdb.block _ (Array.getElem?_eq_some_iff.1 HG8.out).1).trans HG8.out
            obtain ⟨ta, tc, t2, t3, t4⟩ := HFD.out.tw
            obtain ⟨ln, hln⟩ : ∃ ln, ln = f2.st.length := ⟨_, rfl⟩
            obtain ⟨fp, hfp⟩ : ∃ fp, fp = f2.p := ⟨_, rfl⟩
            rw [← hln] at t3 t4
            rw [← hfp] at t2
            have HAT := hid HFD.out.at_
            rw [← hfp] at HAT
            have HTW := hid t4
            have HSA := hid (stack_sl (n := ln) (m := 99) HFD.out.q HDP.out (by omega) hln)
            have dfp : ((fp : Int) != (fp : Int)) = false := by simp
            have keep : ∀ W, Below wd.heap.size wd W → W.heap[w5.heap.size]? = some (.cells (evA ev) TEv (0, 0)) ∧ W.heap[w7.heap.size]? = some (.cells (evA ev) TEv (0, 0)) ∧ W.cell? ⟨p2, 2, none⟩ = some (nI fp) ∧ W.cell? ⟨p2, 3, none⟩ = some (.slice ta ln tc) := fun W hW =>
              ⟨(hW.block _ (Array.getElem?_eq_some_iff.1 hga).1).trans hga, (hW.block _ (Array.getElem?_eq_some_iff.1 hgb).1).trans hgb, (World.cell?_of_block (w := wd) (w' := W) (a := ⟨p2, 2, none⟩) (hW.block p2 (World.block_lt_of_cell? wd _ t2))).trans t2, (World.cell?_of_block (w := wd) (w' := W) (a := ⟨p2, 3, none⟩) (hW.block p2 (World.block_lt_of_cell? wd _ t3))).trans t3⟩
            have HKP := hid keep
            clear keep hga hgb t2 t3 t4 hln hfp hfd hfdb HF8 HB8 HG8 HGA
            refine D.wp_region_mix [1, 1, 0, 0, 0, 0, 0, 0, 0, 0, 2, 0, 0, 0, 1, 0, 0, 0, 0, 2, 0, 0, 0, 1, 2, 0, 0] (fun W => W.heap[w5.heap.size]? = some (.cells (evA ev) TEv (0, 0)) ∧ W.heap[w7.heap.size]? = some (.cells (evA ev) TEv (0, 0)) ∧ W.cell? ⟨p2, 2, none⟩ = some (nI fp) ∧ W.cell? ⟨p2, 3, none⟩ = some (.slice ta ln tc)) (by kernel_rfl) (by kernel_rfl) (by rw [← hwd]; exact HKP.out wd (Below.refl _ _)) ?_
            rw [← hwd]
            clear hwd
            repeat (first
              | ((with_reducible refine C.atM ⟨some 92, _, _, _, _, _⟩ ?_); refine C.wpMix_read (.agg (evA ev)) rfl rfl (fun W hS => load_ev rfl rfl hS.1) ?_; simp only [Act.put, List.setIfInBounds_toArray, List.set_cons_zero, List.set_cons_succ])
              | ((with_reducible refine C.atM ⟨some 93, _, _, _, _, _⟩ ?_); refine C.wpMix_read (.agg (evA ev)) rfl rfl (fun W hS => load_ev rfl rfl hS.2.1) ?_; simp only [Act.put, List.setIfInBounds_toArray, List.set_cons_zero, List.set_cons_succ])
              | ((with_reducible refine C.atM ⟨some 94, _, _, _, _, _⟩ ?_); refine C.wpMix_value (.bool false) rfl rfl (fun W => by rw [exec_neEv (x := ev) (y := ev) rfl rfl rfl, HDN.out]) ?_; simp only [Act.put, List.setIfInBounds_toArray, List.set_cons_zero, List.set_cons_succ])
              | ((with_reducible refine C.atM ⟨some 102, _, _, _, _, _⟩ ?_); refine C.wpMix_call 13 #[.pointer (some ⟨p1, 0, none⟩)] (by decide) rfl (by go_simp) ?_; refine HAT.out.mono ?_; rintro e wA ⟨rfl, hwA⟩; subst hwA; refine ⟨_, rfl, fun _ => HKP.out wd (Below.refl _ _), ?_⟩; simp only [Act.put, List.setIfInBounds_toArray, List.set_cons_zero, List.set_cons_succ])
              | ((with_reducible refine C.atM ⟨some 111, _, _, _, _, _⟩ ?_); refine C.wpMix_call 15 #[.pointer (some ⟨p1, 0, none⟩), .int .i64 99] (by decide) rfl (by go_simp) ?_; refine HSA.out.mono ?_; rintro e wB ⟨hbB, ua, uc, rfl, _, hu⟩; refine ⟨_, rfl, fun _ => HKP.out wB hbB, ?_⟩; have HTU := hid hu; have HTV := hid ((HTW.out.below hbB).up hbB.size); have HBC := hid hbB; clear hbB hu; simp only [Act.put, List.setIfInBounds_toArray, List.set_cons_zero, List.set_cons_succ])
              | ((with_reducible refine C.atM ⟨some 116, _, _, _, _, _⟩ ?_); refine C.wpMix_call 14 #[.slice ua ln uc, .slice ta ln tc] (by decide) rfl (by go_simp) ?_; refine (same_tl wB _ _ _ HTU.out HTV.out).mono ?_; rintro e wD ⟨rfl, hbD⟩; have hbE : Below wd.heap.size wd wD := HBC.out.trans (hbD.mono HBC.out.size); refine ⟨_, rfl, fun _ => HKP.out wD hbE, ?_⟩; have HBE := hid hbE; clear hbD hbE; simp only [Act.put, List.setIfInBounds_toArray, List.set_cons_zero, List.set_cons_succ])
              | (refine' C.wpMix_value _ rfl rfl _ _; rotate_left; (solve | (intro W; go_simp) | (intro W; go_simp; with_reducible rfl)); simp only [Act.put, List.setIfInBounds_toArray, List.set_cons_zero, List.set_cons_succ])
              | (refine' C.wpMix_read _ rfl rfl _ _; rotate_left; (solve | (rintro W ⟨_, _, h1, h2⟩; go_simp) | (rintro W ⟨_, _, h1, h2⟩; go_simp; with_reducible rfl)); simp only [Act.put, List.setIfInBounds_toArray, List.set_cons_zero, List.set_cons_succ]))
            refine C.wpMix_end ?_
            have HI6 := hid (show RuI w p1 p2 f2 wD from ⟨HFD.out.below HBE.out, HOK2.out, HBD.out.trans (HBE.out.mono HBD.out.size)⟩)
            clear HSA HAT HFD HBD HTU HTV HTW HKP
            go_wp2_with fail
            go_roundw
            case rel => exact ⟨q + 1, rx, z2, f2, by omega, by go_num, rfl, rfl, HI6⟩
            case measure => simp [intOf]; omega
      · have dr : decide ((q : Int) < (nr : Int)) = false := decide_eq_false (by omega)
        by_cases hqv : q < nv
        · obtain ⟨vb, vo, vx, rfl, cv⟩ := HVS.out wr HI.out.bl q hqv
          have dv : decide ((q : Int) < (nv : Int)) = true := decide_eq_true (by omega)
          as_aux_lemma =>
            have HNX := hid (HI.out.fm.next1 HI.out.bl.size HI.out.ok r vx)
            obtain ⟨ev, hev⟩ : ∃ ev, ev = nxE f r vx := ⟨_, rfl⟩
            obtain ⟨z2, hz2⟩ : ∃ z2, z2 = nxV f r vx := ⟨_, rfl⟩
            obtain ⟨f2, hf2⟩ : ∃ f2, f2 = nxF f r vx := ⟨_, rfl⟩
            have HOK2 := hid (show FsR f2 by rw [hf2]; exact HI.out.ok.next r vx)
            have HNY := hid (fun (W : World) (X : Nat → Prop) (h : PrT w.heap.size p1 p2 f2 f X W) (hB : w.heap.size ≤ W.heap.size) => h.next2 hB HI.out.ok r vx)
            rw [← hev, ← hz2, ← hf2] at HNX
            rw [← hev, ← hz2, ← hf2] at HNY
            have HDP := hid HOK2.out.deep
            have dz : (z2 != z2) = false := by simp
            have dne : (!eqE ev ev) = false := by rw [eqE_iff.2 rfl]; rfl
            have HDN := hid dne
            clear hev hz2 hf2 dne
            go_upto_region 19 with (first
              | (go_at_call 11; refine HNX.out.mono ?_; rintro e w5 ⟨rfl, hF5, hf5⟩; obtain ⟨w6, hw6⟩ : ∃ w6, w6 = (w5.alloc (.cells #[.int .i64 0, .int .i64 0, .int .i64 0, .int .i64 0, .int .i64 0] TEv)).setRow w5.heap.size (evA ev) := ⟨_, rfl⟩; have hg6 : w6.heap[w5.heap.size]? = some (.cells (evA ev) TEv (0, 0)) := (by rw [hw6]; exact setRow_heap _ _ _ _ _ _ (heap_alloc_new _ _)); have hb56 : Below w5.heap.size w5 w6 := (by rw [hw6]; exact below_setRow ((Below.refl _ _).alloc (Nat.le_refl _) _) _ _ (Nat.le_refl _)); have HW6 := hid hw6; have HF6 := hid (hF5.fresh (X2 := fun k => k = w5.heap.size) hb56 (fun k hk => .inr ⟨by omega, by rw [hk]; exact (Array.getElem?_eq_some_iff.1 hg6).1⟩)); have HB6 := hid ((HI.out.bl.trans (hf5.below HI.out.bl.size (fun k hk => hk.1))).trans (hb56.mono (Nat.le_trans HI.out.bl.size hf5.size))); have HG6 := hid hg6; clear hF5 hf5 hw6 hb56 hg6)
              | ((with_reducible refine at_op ⟨none, .store TEv (.tmp 18) (.tmp 83), _, _, _, _⟩ ?_); refine wpList_store_row rfl TEv _ _ rfl w5.heap.size (evA ev) rfl rfl TEv (evA evZ) (heap_alloc_new _ _) szEv rfl (evA_one _) ?_; rw [← HW6.out])
              | fail)
            have HNY2 := hid (HNY.out w6 _ HF6.out HB6.out.size)
            have hgl6 : w5.heap.size < w6.heap.size := (Array.getElem?_eq_some_iff.1 HG6.out).1
            clear HNX HNY
            go_upto_region 20 with (first
              | (go_at_call 12; refine HNY2.out.mono ?_; rintro e w7 ⟨rfl, hF7, hf7⟩; obtain ⟨w8, hw8⟩ : ∃ w8, w8 = (w7.alloc (.cells #[.int .i64 0, .int .i64 0, .int .i64 0, .int .i64 0, .int .i64 0] TEv)).setRow w7.heap.size (evA ev) := ⟨_, rfl⟩; have hg8 : w8.heap[w7.heap.size]? = some (.cells (evA ev) TEv (0, 0)) := (by rw [hw8]; exact setRow_heap _ _ _ _ _ _ (heap_alloc_new _ _)); have hb78 : Below w7.heap.size w7 w8 := (by rw [hw8]; exact below_setRow ((Below.refl _ _).alloc (Nat.le_refl _) _) _ _ (Nat.le_refl _)); have hga : w8.heap[w5.heap.size]? = some (.cells (evA ev) TEv (0, 0)) := ((hb78.block _ (Nat.lt_of_lt_of_le hgl6 hf7.size)).trans (hf7.block _ hgl6 (fun e => e.2 rfl))).trans HG6.out; have HW8 := hid hw8; have HF8 := hid (hF7.fresh (X2 := fun _ => False) hb78 (fun k hk => hk.elim)); have HB8 := hid ((HB6.out.trans (hf7.below HB6.out.size (fun k hk => hk.1))).trans (hb78.mono (Nat.le_trans HB6.out.size hf7.size))); have HG8 := hid hg8; have HGA := hid hga; clear hF7 hf7 hw8 hb78 hg8 hga)
              | ((with_reducible refine at_op ⟨none, .store TEv (.tmp 20) (.tmp 90), _, _, _, _⟩ ?_); refine wpList_store_row rfl TEv _ _ rfl w7.heap.size (evA ev) rfl rfl TEv (evA evZ) (heap_alloc_new _ _) szEv rfl (evA_one _) ?_; rw [← HW8.out])
              | fail)
            clear HNY2 HW6 HW8
            obtain ⟨wd, hwd⟩ : ∃ wd, wd = w8.drew := ⟨_, rfl⟩
            have hfd : Fr (fun _ => False) w8 wd := by rw [hwd]; exact (Fr.refl _ _).drew
            have hfdb : Below w8.heap.size w8 wd := by rw [hwd]; exact ⟨rfl, rfl, rfl, Nat.le_refl _, fun _ _ => rfl⟩
            have HFD := hid (HF8.out.below hfdb)
            have HBD := hid (HB8.out.trans (hfdb.mono HB8.out.size))
            have hga : wd.heap[w5.heap.size]? = some (.cells (evA ev) TEv (0, 0)) := (hfdb.block _ (Array.getElem?_eq_some_iff.1 HGA.out).1).trans HGA.out
            have hgb : wd.heap[w7.heap.size]? = some (.cells (evA ev) TEv (0, 0)) := (hfdb.block _ (Array.getElem?_eq_some_iff.1 HG8.out).1).trans HG8.out
            obtain ⟨ta, tc, t2, t3, t4⟩ := HFD.out.tw
            obtain ⟨ln, hln⟩ : ∃ ln, ln = f2.st.length := ⟨_, rfl⟩
            obtain ⟨fp, hfp⟩ : ∃ fp, fp = f2.p := ⟨_, rfl⟩
            rw [← hln] at t3 t4
            rw [← hfp] at t2
            have HAT := hid HFD.out.at_
            rw [← hfp] at HAT
            have HTW := hid t4
            have HSA := hid (stack_sl (n := ln) (m := 99) HFD.out.q HDP.out (by omega) hln)
            have dfp : ((fp : Int) != (fp : Int)) = false := by simp
            have keep : ∀ W, Below wd.heap.size wd W → W.heap[w5.heap.size]? = some (.cells (evA ev) TEv (0, 0)) ∧ W.heap[w7.heap.size]? = some (.cells (evA ev) TEv (0, 0)) ∧ W.cell? ⟨p2, 2, none⟩ = some (nI fp) ∧ W.cell? ⟨p2, 3, none⟩ = some (.slice ta ln tc) := fun W hW =>
              ⟨(hW.block _ (Array.getElem?_eq_some_iff.1 hga).1).trans hga, (hW.block _ (Array.getElem?_eq_some_iff.1 hgb).1).trans hgb, (World.cell?_of_block (w := wd) (w' := W) (a := ⟨p2, 2, none⟩) (hW.block p2 (World.block_lt_of_cell? wd _ t2))).trans t2, (World.cell?_of_block (w := wd) (w' := W) (a := ⟨p2, 3, none⟩) (hW.block p2 (World.block_lt_of_cell? wd _ t3))).trans t3⟩
            have HKP := hid keep
            clear keep hga hgb t2 t3 t4 hln hfp hfd hfdb HF8 HB8 HG8 HGA
            refine D.wp_region_mix [1, 1, 0, 0, 0, 0, 0, 0, 0, 0, 2, 0, 0, 0, 1, 0, 0, 0, 0, 2, 0, 0, 0, 1, 2, 0, 0] (fun W => W.heap[w5.heap.size]? = some (.cells (evA ev) TEv (0, 0)) ∧ W.heap[w7.heap.size]? = some (.cells (evA ev) TEv (0, 0)) ∧ W.cell? ⟨p2, 2, none⟩ = some (nI fp) ∧ W.cell? ⟨p2, 3, none⟩ = some (.slice ta ln tc)) (by kernel_rfl) (by kernel_rfl) (by rw [← hwd]; exact HKP.out wd (Below.refl _ _)) ?_
            rw [← hwd]
            clear hwd
            repeat (first
              | ((with_reducible refine C.atM ⟨some 92, _, _, _, _, _⟩ ?_); refine C.wpMix_read (.agg (evA ev)) rfl rfl (fun W hS => load_ev rfl rfl hS.1) ?_; simp only [Act.put, List.setIfInBounds_toArray, List.set_cons_zero, List.set_cons_succ])
              | ((with_reducible refine C.atM ⟨some 93, _, _, _, _, _⟩ ?_); refine C.wpMix_read (.agg (evA ev)) rfl rfl (fun W hS => load_ev rfl rfl hS.2.1) ?_; simp only [Act.put, List.setIfInBounds_toArray, List.set_cons_zero, List.set_cons_succ])
              | ((with_reducible refine C.atM ⟨some 94, _, _, _, _, _⟩ ?_); refine C.wpMix_value (.bool false) rfl rfl (fun W => by rw [exec_neEv (x := ev) (y := ev) rfl rfl rfl, HDN.out]) ?_; simp only [Act.put, List.setIfInBounds_toArray, List.set_cons_zero, List.set_cons_succ])
              | ((with_reducible refine C.atM ⟨some 102, _, _, _, _, _⟩ ?_); refine C.wpMix_call 13 #[.pointer (some ⟨p1, 0, none⟩)] (by decide) rfl (by go_simp) ?_; refine HAT.out.mono ?_; rintro e wA ⟨rfl, hwA⟩; subst hwA; refine ⟨_, rfl, fun _ => HKP.out wd (Below.refl _ _), ?_⟩; simp only [Act.put, List.setIfInBounds_toArray, List.set_cons_zero, List.set_cons_succ])
              | ((with_reducible refine C.atM ⟨some 111, _, _, _, _, _⟩ ?_); refine C.wpMix_call 15 #[.pointer (some ⟨p1, 0, none⟩), .int .i64 99] (by decide) rfl (by go_simp) ?_; refine HSA.out.mono ?_; rintro e wB ⟨hbB, ua, uc, rfl, _, hu⟩; refine ⟨_, rfl, fun _ => HKP.out wB hbB, ?_⟩; have HTU := hid hu; have HTV := hid ((HTW.out.below hbB).up hbB.size); have HBC := hid hbB; clear hbB hu; simp only [Act.put, List.setIfInBounds_toArray, List.set_cons_zero, List.set_cons_succ])
              | ((with_reducible refine C.atM ⟨some 116, _, _, _, _, _⟩ ?_); refine C.wpMix_call 14 #[.slice ua ln uc, .slice ta ln tc] (by decide) rfl (by go_simp) ?_; refine (same_tl wB _ _ _ HTU.out HTV.out).mono ?_; rintro e wD ⟨rfl, hbD⟩; have hbE : Below wd.heap.size wd wD := HBC.out.trans (hbD.mono HBC.out.size); refine ⟨_, rfl, fun _ => HKP.out wD hbE, ?_⟩; have HBE := hid hbE; clear hbD hbE; simp only [Act.put, List.setIfInBounds_toArray, List.set_cons_zero, List.set_cons_succ])
              | (refine' C.wpMix_value _ rfl rfl _ _; rotate_left; (solve | (intro W; go_simp) | (intro W; go_simp; with_reducible rfl)); simp only [Act.put, List.setIfInBounds_toArray, List.set_cons_zero, List.set_cons_succ])
              | (refine' C.wpMix_read _ rfl rfl _ _; rotate_left; (solve | (rintro W ⟨_, _, h1, h2⟩; go_simp) | (rintro W ⟨_, _, h1, h2⟩; go_simp; with_reducible rfl)); simp only [Act.put, List.setIfInBounds_toArray, List.set_cons_zero, List.set_cons_succ]))
            refine C.wpMix_end ?_
            have HI6 := hid (show RuI w p1 p2 f2 wD from ⟨HFD.out.below HBE.out, HOK2.out, HBD.out.trans (HBE.out.mono HBD.out.size)⟩)
            clear HSA HAT HFD HBD HTU HTV HTW HKP
            go_wp2_with fail
            go_roundw
            case rel => exact ⟨q + 1, r, z2, f2, by omega, by go_num, rfl, rfl, HI6⟩
            case measure => simp [intOf]; omega
        · have dv : decide ((q : Int) < (nv : Int)) = false := decide_eq_false (by omega)
          as_aux_lemma =>
            have HNX := hid (HI.out.fm.next1 HI.out.bl.size HI.out.ok r v)
            obtain ⟨ev, hev⟩ : ∃ ev, ev = nxE f r v := ⟨_, rfl⟩
            obtain ⟨z2, hz2⟩ : ∃ z2, z2 = nxV f r v := ⟨_, rfl⟩
            obtain ⟨f2, hf2⟩ : ∃ f2, f2 = nxF f r v := ⟨_, rfl⟩
            have HOK2 := hid (show FsR f2 by rw [hf2]; exact HI.out.ok.next r v)
            have HNY := hid (fun (W : World) (X : Nat → Prop) (h : PrT w.heap.size p1 p2 f2 f X W) (hB : w.heap.size ≤ W.heap.size) => h.next2 hB HI.out.ok r v)
            rw [← hev, ← hz2, ← hf2] at HNX
            rw [← hev, ← hz2, ← hf2] at HNY
            have HDP := hid HOK2.out.deep
            have dz : (z2 != z2) = false := by simp
            have dne : (!eqE ev ev) = false := by rw [eqE_iff.2 rfl]; rfl
            have HDN := hid dne
            clear hev hz2 hf2 dne
            go_upto_region 19 with (first
              | (go_at_call 11; refine HNX.out.mono ?_; rintro e w5 ⟨rfl, hF5, hf5⟩; obtain ⟨w6, hw6⟩ : ∃ w6, w6 = (w5.alloc (.cells #[.int .i64 0, .int .i64 0, .int .i64 0, .int .i64 0, .int .i64 0] TEv)).setRow w5.heap.size (evA ev) := ⟨_, rfl⟩; have hg6 : w6.heap[w5.heap.size]? = some (.cells (evA ev) TEv (0, 0)) := (by rw [hw6]; exact setRow_heap _ _ _ _ _ _ (heap_alloc_new _ _)); have hb56 : Below w5.heap.size w5 w6 := (by rw [hw6]; exact below_setRow ((Below.refl _ _).alloc (Nat.le_refl _) _) _ _ (Nat.le_refl _)); have HW6 := hid hw6; have HF6 := hid (hF5.fresh (X2 := fun k => k = w5.heap.size) hb56 (fun k hk => .inr ⟨by omega, by rw [hk]; exact (Array.getElem?_eq_some_iff.1 hg6).1⟩)); have HB6 := hid ((HI.out.bl.trans (hf5.below HI.out.bl.size (fun k hk => hk.1))).trans (hb56.mono (Nat.le_trans HI.out.bl.size hf5.size))); have HG6 := hid hg6; clear hF5 hf5 hw6 hb56 hg6)
              | ((with_reducible refine at_op ⟨none, .store TEv (.tmp 18) (.tmp 83), _, _, _, _⟩ ?_); refine wpList_store_row rfl TEv _ _ rfl w5.heap.size (evA ev) rfl rfl TEv (evA evZ) (heap_alloc_new _ _) szEv rfl (evA_one _) ?_; rw [← HW6.out])
              | fail)
            have HNY2 := hid (HNY.out w6 _ HF6.out HB6.out.size)
            have hgl6 : w5.heap.size < w6.heap.size := (Array.getElem?_eq_some_iff.1 HG6.out).1
            clear HNX HNY
            go_upto_region 20 with (first
              | (go_at_call 12; refine HNY2.out.mono ?_; rintro e w7 ⟨rfl, hF7, hf7⟩; obtain ⟨w8, hw8⟩ : ∃ w8, w8 = (w7.alloc (.cells #[.int .i64 0, .int .i64 0, .int .i64 0, .int .i64 0, .int .i64 0] TEv)).setRow w7.heap.size (evA ev) := ⟨_, rfl⟩; have hg8 : w8.heap[w7.heap.size]? = some (.cells (evA ev) TEv (0, 0)) := (by rw [hw8]; exact setRow_heap _ _ _ _ _ _ (heap_alloc_new _ _)); have hb78 : Below w7.heap.size w7 w8 := (by rw [hw8]; exact below_setRow ((Below.refl _ _).alloc (Nat.le_refl _) _) _ _ (Nat.le_refl _)); have hga : w8.heap[w5.heap.size]? = some (.cells (evA ev) TEv (0, 0)) := ((hb78.block _ (Nat.lt_of_lt_of_le hgl6 hf7.size)).trans (hf7.block _ hgl6 (fun e => e.2 rfl))).trans HG6.out; have HW8 := hid hw8; have HF8 := hid (hF7.fresh (X2 := fun _ => False) hb78 (fun k hk => hk.elim)); have HB8 := hid ((HB6.out.trans (hf7.below HB6.out.size (fun k hk => hk.1))).trans (hb78.mono (Nat.le_trans HB6.out.size hf7.size))); have HG8 := hid hg8; have HGA := hid hga; clear hF7 hf7 hw8 hb78 hg8 hga)
              | ((with_reducible refine at_op ⟨none, .store TEv (.tmp 20) (.tmp 90), _, _, _, _⟩ ?_); refine wpList_store_row rfl TEv _ _ rfl w7.heap.size (evA ev) rfl rfl TEv (evA evZ) (heap_alloc_new _ _) szEv rfl (evA_one _) ?_; rw [← HW8.out])
              | fail)
            clear HNY2 HW6 HW8
            obtain ⟨wd, hwd⟩ : ∃ wd, wd = w8.drew := ⟨_, rfl⟩
            have hfd : Fr (fun _ => False) w8 wd := by rw [hwd]; exact (Fr.refl _ _).drew
            have hfdb : Below w8.heap.size w8 wd := by rw [hwd]; exact ⟨rfl, rfl, rfl, Nat.le_refl _, fun _ _ => rfl⟩
            have HFD := hid (HF8.out.below hfdb)
            have HBD := hid (HB8.out.trans (hfdb.mono HB8.out.size))
            have hga : wd.heap[w5.heap.size]? = some (.cells (evA ev) TEv (0, 0)) := (hfdb.block _ (Array.getElem?_eq_some_iff.1 HGA.out).1).trans HGA.out
            have hgb : wd.heap[w7.heap.size]? = some (.cells (evA ev) TEv (0, 0)) := (hfdb.block _ (Array.getElem?_eq_some_iff.1 HG8.out).1).trans HG8.out
            obtain ⟨ta, tc, t2, t3, t4⟩ := HFD.out.tw
            obtain ⟨ln, hln⟩ : ∃ ln, ln = f2.st.length := ⟨_, rfl⟩
            obtain ⟨fp, hfp⟩ : ∃ fp, fp = f2.p := ⟨_, rfl⟩
            rw [← hln] at t3 t4
            rw [← hfp] at t2
            have HAT := hid HFD.out.at_
            rw [← hfp] at HAT
            have HTW := hid t4
            have HSA := hid (stack_sl (n := ln) (m := 99) HFD.out.q HDP.out (by omega) hln)
            have dfp : ((fp : Int) != (fp : Int)) = false := by simp
            have keep : ∀ W, Below wd.heap.size wd W → W.heap[w5.heap.size]? = some (.cells (evA ev) TEv (0, 0)) ∧ W.heap[w7.heap.size]? = some (.cells (evA ev) TEv (0, 0)) ∧ W.cell? ⟨p2, 2, none⟩ = some (nI fp) ∧ W.cell? ⟨p2, 3, none⟩ = some (.slice ta ln tc) := fun W hW =>
              ⟨(hW.block _ (Array.getElem?_eq_some_iff.1 hga).1).trans hga, (hW.block _ (Array.getElem?_eq_some_iff.1 hgb).1).trans hgb, (World.cell?_of_block (w := wd) (w' := W) (a := ⟨p2, 2, none⟩) (hW.block p2 (World.block_lt_of_cell? wd _ t2))).trans t2, (World.cell?_of_block (w := wd) (w' := W) (a := ⟨p2, 3, none⟩) (hW.block p2 (World.block_lt_of_cell? wd _ t3))).trans t3⟩
            have HKP := hid keep
            clear keep hga hgb t2 t3 t4 hln hfp hfd hfdb HF8 HB8 HG8 HGA
            refine D.wp_region_mix [1, 1, 0, 0, 0, 0, 0, 0, 0, 0, 2, 0, 0, 0, 1, 0, 0, 0, 0, 2, 0, 0, 0, 1, 2, 0, 0] (fun W => W.heap[w5.heap.size]? = some (.cells (evA ev) TEv (0, 0)) ∧ W.heap[w7.heap.size]? = some (.cells (evA ev) TEv (0, 0)) ∧ W.cell? ⟨p2, 2, none⟩ = some (nI fp) ∧ W.cell? ⟨p2, 3, none⟩ = some (.slice ta ln tc)) (by kernel_rfl) (by kernel_rfl) (by rw [← hwd]; exact HKP.out wd (Below.refl _ _)) ?_
            rw [← hwd]
            clear hwd
            repeat (first
              | ((with_reducible refine C.atM ⟨some 92, _, _, _, _, _⟩ ?_); refine C.wpMix_read (.agg (evA ev)) rfl rfl (fun W hS => load_ev rfl rfl hS.1) ?_; simp only [Act.put, List.setIfInBounds_toArray, List.set_cons_zero, List.set_cons_succ])
              | ((with_reducible refine C.atM ⟨some 93, _, _, _, _, _⟩ ?_); refine C.wpMix_read (.agg (evA ev)) rfl rfl (fun W hS => load_ev rfl rfl hS.2.1) ?_; simp only [Act.put, List.setIfInBounds_toArray, List.set_cons_zero, List.set_cons_succ])
              | ((with_reducible refine C.atM ⟨some 94, _, _, _, _, _⟩ ?_); refine C.wpMix_value (.bool false) rfl rfl (fun W => by rw [exec_neEv (x := ev) (y := ev) rfl rfl rfl, HDN.out]) ?_; simp only [Act.put, List.setIfInBounds_toArray, List.set_cons_zero, List.set_cons_succ])
              | ((with_reducible refine C.atM ⟨some 102, _, _, _, _, _⟩ ?_); refine C.wpMix_call 13 #[.pointer (some ⟨p1, 0, none⟩)] (by decide) rfl (by go_simp) ?_; refine HAT.out.mono ?_; rintro e wA ⟨rfl, hwA⟩; subst hwA; refine ⟨_, rfl, fun _ => HKP.out wd (Below.refl _ _), ?_⟩; simp only [Act.put, List.setIfInBounds_toArray, List.set_cons_zero, List.set_cons_succ])
              | ((with_reducible refine C.atM ⟨some 111, _, _, _, _, _⟩ ?_); refine C.wpMix_call 15 #[.pointer (some ⟨p1, 0, none⟩), .int .i64 99] (by decide) rfl (by go_simp) ?_; refine HSA.out.mono ?_; rintro e wB ⟨hbB, ua, uc, rfl, _, hu⟩; refine ⟨_, rfl, fun _ => HKP.out wB hbB, ?_⟩; have HTU := hid hu; have HTV := hid ((HTW.out.below hbB).up hbB.size); have HBC := hid hbB; clear hbB hu; simp only [Act.put, List.setIfInBounds_toArray, List.set_cons_zero, List.set_cons_succ])
              | ((with_reducible refine C.atM ⟨some 116, _, _, _, _, _⟩ ?_); refine C.wpMix_call 14 #[.slice ua ln uc, .slice ta ln tc] (by decide) rfl (by go_simp) ?_; refine (same_tl wB _ _ _ HTU.out HTV.out).mono ?_; rintro e wD ⟨rfl, hbD⟩; have hbE : Below wd.heap.size wd wD := HBC.out.trans (hbD.mono HBC.out.size); refine ⟨_, rfl, fun _ => HKP.out wD hbE, ?_⟩; have HBE := hid hbE; clear hbD hbE; simp only [Act.put, List.setIfInBounds_toArray, List.set_cons_zero, List.set_cons_succ])
              | (refine' C.wpMix_value _ rfl rfl _ _; rotate_left; (solve | (intro W; go_simp) | (intro W; go_simp; with_reducible rfl)); simp only [Act.put, List.setIfInBounds_toArray, List.set_cons_zero, List.set_cons_succ])
              | (refine' C.wpMix_read _ rfl rfl _ _; rotate_left; (solve | (rintro W ⟨_, _, h1, h2⟩; go_simp) | (rintro W ⟨_, _, h1, h2⟩; go_simp; with_reducible rfl)); simp only [Act.put, List.setIfInBounds_toArray, List.set_cons_zero, List.set_cons_succ]))
            refine C.wpMix_end ?_
            have HI6 := hid (show RuI w p1 p2 f2 wD from ⟨HFD.out.below HBE.out, HOK2.out, HBD.out.trans (HBE.out.mono HBD.out.size)⟩)
            clear HSA HAT HFD HBD HTU HTV HTW HKP
            go_wp2_with fail
            go_roundw
            case rel => exact ⟨q + 1, r, z2, f2, by omega, by go_num, rfl, rfl, HI6⟩
            case measure => simp [intOf]; omega
    · have dq : decide ((q : Int) < 40) = false := decide_eq_false (by omega)
      clear hq4
      go_wp2_with (first
        | (go_at_call 8; refine (HA.out _ HI.out.bl).mono ?_; rintro e w7 ⟨rfl, hb7⟩; have HB7 := hid (HI.out.bl.trans (hb7.mono HI.out.bl.size)); clear hb7)
        | fail)
      go_ret
      exact ⟨rfl, HB7.out⟩
end Go.Proofs.YtcoclaabainibaaDoor
