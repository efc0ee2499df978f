/-
  WeakTrue's walk.
-/
import Derived.Test.YtmampaglemleoabWkP
import Derived.Test.YtmampaglemleoabPick
namespace Go.Proofs.Ytmampaglemleoab
open Go Go.ChangeShapes Go.WideShapes Go.ChangeAt Go.RowKit

/-- The block is there, of this target, dead or not. -/
def TrJ (L : WL) (b t : Int) (dd : Bool) : Prop := ∃ o ∈ L, o.h = b ∧ o.t = t ∧ o.dead = dd
theorem TrJ.setn {L : WL} {b t : Int} {dd : Bool} (h : TrJ L b t dd) (x n : Int) : TrJ (setn L x n) b t dd := by
  obtain ⟨o, ho, h1, h2, h3⟩ := h
  exact ⟨_, mem_setn.2 ⟨o, ho, rfl⟩, by split <;> exact h1, by split <;> exact h2, by split <;> exact h3⟩
theorem TrJ.of {s s' : Ws} {b t u h e : Int} {dd : Bool} (hj : TrJ s.L b t dd) (hr : WkOf s u s' h e) : TrJ s'.L b t dd := by
  cases hr with
  | up => exact hj.setn _ _
  | top => exact hj
  | full => exact hj
  | new =>
    obtain ⟨o, ho, h1⟩ := hj
    exact ⟨o, List.mem_append_left _ ho, h1⟩
theorem TrJ.dn {s s' : Ws} {b t x n e : Int} {dd : Bool} (hj : TrJ s.L b t dd) (hx : x ≠ b) (hr : WkDn s x s' n e) : TrJ s'.L b t dd := by
  cases hr with
  | stale => exact hj
  | more => exact hj.setn _ _
  | last =>
    obtain ⟨o, ho, h1, h2⟩ := hj
    exact ⟨o, mem_cutb.2 ⟨ho, fun e => hx (e.symm.trans h1)⟩, h1, h2⟩
/-- This target dies. -/
theorem TrJ.die {s : Ws} {b t : Int} {dd : Bool} (hj : TrJ s.L b t dd) (hs : WkI s) : TrJ (dieL s.L t) b t true ∧ ((lv s.L t).isSome = false → dd = true) := by
  obtain ⟨o, ho, h1, h2, h3⟩ := hj
  have key : (lv s.L t).isSome = false → dd = true := fun h => by
    cases dd with
    | true => rfl
    | false =>
      have := hs.lv_mem ho h3
      rw [h2] at this
      rw [this] at h
      cases h
  refine ⟨?_, key⟩
  unfold dieL
  cases hl : lv s.L t with
  | none => exact ⟨o, ho, h1, h2, by rw [h3]; exact key (by rw [hl]; rfl)⟩
  | some c =>
    refine ⟨_, mem_kill.2 ⟨o, ho, rfl⟩, by split <;> exact h1, by split <;> exact h2, ?_⟩
    split
    · rfl
    · rename_i hne
      cases hd : o.dead with
      | true => rfl
      | false =>
        obtain ⟨c1, c2, c3⟩ := lv_some hl
        exact absurd (by rw [hs.one o ho c c1 hd c3 (h2.trans c2.symm)]) hne
/-- Another target dies. -/
theorem TrJ.other {s : Ws} {b t u : Int} {dd : Bool} (hj : TrJ s.L b t dd) (hs : WkI s) (hu : u ≠ t) : TrJ (dieL s.L u) b t dd := by
  obtain ⟨o, ho, h1, h2, h3⟩ := hj
  unfold dieL
  cases hl : lv s.L u with
  | none => exact ⟨o, ho, h1, h2, h3⟩
  | some c =>
    obtain ⟨c1, c2, c3⟩ := lv_some hl
    refine ⟨o, mem_kill.2 ⟨o, ho, ?_⟩, h1, h2, h3⟩
    rw [if_neg (fun e => hu ?_)]
    rw [← c2, ← h2, bl_eq hs.nd ho c1 e]
theorem TrJ.lock {s : Ws} {b t : Int} {dd : Bool} (hj : TrJ s.L b t dd) (hs : WkI s) : lockR s.L b = if dd then (0, 10) else (t, 0) := by
  obtain ⟨o, ho, h1, h2, h3⟩ := hj
  unfold lockR
  rw [← h1, fb_mem hs.nd ho]
  simp only
  rw [h2, h3]
/-- Between two rounds. -/
structure TrI (w : World) (p : Value) (b t : Int) (dd : Bool) (wr : World) : Prop where
  ex : ∃ S s, (∀ b, S b → w.heap.size ≤ b) ∧ RpW S wr p s ∧ TrJ s.L b t dd
  b : Below w.heap.size w wr
theorem TrI.to {w : World} {p : Value} {b t : Int} {dd : Bool} {wr w' : World} {S : Nat → Prop} {s' : Ws} (hB : Below w.heap.size w wr) (hS : ∀ b, S b → w.heap.size ≤ b) (hf : Fr S wr w') (hR : RpW (exS S wr w') w' p s') (hj : TrJ s'.L b t dd) : TrI w p b t dd w' :=
  ⟨⟨_, s', exS_gt hS hB.size, hR, hj⟩, hB.trans (hf.below hB.size hS)⟩
set_option maxRecDepth 100000 in
set_option maxHeartbeats 16000000 in
theorem WeakTrue_any (w : World) (ad : Option Addr) (c : Nat) (l : List WAct) (t late : Int) (hl : RwW w w.heap.size ad l) (hll : l.length ≤ 9223372036854775807) (ht : U64 t) (hla : Nm late) :
    Calls Try.prog 5 #[.slice ad l.length c, .int .u64 t, .int .i64 late] w fun e w' => e = .returned (.bool true) ∧ Below w.heap.size w w' := by
  have HL := hid hl
  have HT := hid ht
  have HN := hid (RpW.new 300 w (by omega))
  have HPK := hid (fun W => Pick_any late 100 W hla (by omega) (by omega))
  obtain ⟨z, hz⟩ : ∃ z, z = late % 100 := ⟨_, rfl⟩
  rw [← hz] at HPK
  clear hl ht hla hz
  go_enter Try.func5, Try.ntmps5
  go_wp2_with fail
  refine HN.out.mono ?_
  rintro e w1 ⟨hb1, p, S, rfl, hS, hR⟩
  obtain ⟨pb, rfl⟩ := hR.ptr
  have HOF := hid (hR.of HT.out)
  have HS := hid hS
  have HB1 := hid hb1
  clear hb1 hS hR HN
  go_wp2_with fail
  refine HOF.out.mono ?_
  rintro e w2 ⟨hf, s2, b, er, rfl, hof, hR2⟩
  have hx : er = 0 ∧ U64 b ∧ TrJ s2.L b t false := by
    have hbd : ∀ o ∈ s2.L, U64 o.h := fun o ho => by have := hR2.ok.hbd ho; unfold U64; omega
    cases hof with
    | up b hl hn => simp [lv] at hl
    | top b hl hn => simp [lv] at hl
    | full hl hF => exact absurd hF.2 (by simp [new])
    | new hl hp => exact ⟨rfl, hbd _ (List.mem_append_right _ (List.mem_singleton.2 rfl)), _, List.mem_append_right _ (List.mem_singleton.2 rfl), rfl, rfl, rfl⟩
  obtain ⟨rfl, hbu, hj2⟩ := hx
  have HBU := hid hbu
  have HI := hid (TrI.to HB1.out HS.out hf hR2 hj2)
  clear hf hof hR2 hj2 HOF HS HB1 hbu
  go_wp2
  go_loopw [12, 11] (fun i12 v11 wr => ∃ (i : Nat) (dd : Bool), i ≤ l.length ∧ i ≤ 100 ∧ i12 = .int .i64 i ∧ v11 = .bool dd ∧ RowKit.Hid (TrI w (.pointer (some ⟨pb, 0, none⟩)) b t dd wr)) (fun i12 _ _ => 100 - (intOf i12).toNat)
  case atStart => exact ⟨0, false, by omega, by omega, rfl, rfl, HI⟩
  case round =>
    obtain ⟨i, dd, hil, hi100, rfl, rfl, HIi⟩ := hrel
    clear HI
    by_cases hgo : i < l.length ∧ i < 100
    · obtain ⟨hg1, hg2⟩ := hgo
      have hx : l[i]? = some (l[i]'hg1) := List.getElem?_eq_getElem hg1
      generalize l[i]'hg1 = x at hx
      obtain ⟨ab, ao, rfl, hab⟩ := HL.out.at_ (by omega)
      have HX := hid hx
      have HOK := hid (HL.out.ok x (List.mem_of_getElem? hx))
      have HPK3 := hid (fun W => Pick_any x.kind 3 W HOK.out.1 (by omega) (by omega))
      have hm0 := Int.emod_nonneg x.kind (show (3 : Int) ≠ 0 by omega)
      have hm1 := Int.emod_lt_of_pos x.kind (show (0 : Int) < 3 by omega)
      obtain ⟨y, hy⟩ : ∃ y, y = x.kind % 3 := ⟨_, rfl⟩
      rw [← hy] at HPK3 hm0 hm1
      clear hx hy
      by_cases hiz : (i : Int) = z
      · have hq : ((i : Int) == z) = true := by simpa using hiz
        clear hiz
        obtain ⟨S, s, h1, h2, h3⟩ := HIi.out.ex
        have HD := hid (h2.die HT.out)
        obtain ⟨k1, k2⟩ := h3.die h2.ok
        have HB := hid HIi.out.b
        have H1 := hid h1
        have HK1 := hid k1
        have HK2 := hid k2
        clear h1 h2 h3 k1 k2 HIi
        go_wp2_with fail
        refine (HPK.out _).mono ?_
        rintro e w5 ⟨rfl, rfl⟩
        go_wp2_with fail
        refine HD.out.mono ?_
        rintro e w6 ⟨rfl, hf, hR6⟩
        have HI6 := hid (TrI.to HB.out H1.out hf hR6 HK1.out)
        clear hf hR6 HB H1 HK1 HD
        obtain ⟨r, hr⟩ : ∃ r, r = (lv s.L t).isSome := ⟨_, rfl⟩
        rw [← hr] at HK2 ⊢
        cases r with
        | true =>
          clear HK2 hr
          have HAT := hid ((HL.out.below HI6.out.b).rows ab ao rfl i x HX.out)
          have hbb := boxW_below w6 x
          have HA7 := hid (boxW_row w6 x)
          obtain ⟨S6, s6, h1, h2, h3⟩ := HI6.out.ex
          have H1 := hid h1
          have H2 := hid (h2.no (Fr.of_below hbb))
          have HG7 := hid (show ¬ S6 w6.heap.size from fun hk => by have := h2.lt _ hk; omega)
          have H3 := hid h3
          have HB7 := hid (HI6.out.b.trans (hbb.mono HI6.out.b.size))
          clear h1 h2 h3 hbb HI6
          go_upto_region 12 with (first
            | ((with_reducible refine at_op ⟨some 54, _, _, _, _, _⟩ ?_); refine wpList_run rfl _ (load_wact rfl rfl HAT.out) ?_)
            | ((with_reducible refine at_op ⟨none, .store 37 (.tmp 13) (.tmp 54), _, _, _, _⟩ ?_); refine wpList_store_row rfl 37 _ _ rfl w6.heap.size (wac x).toArray rfl rfl 37 zWAct (heap_alloc_new _ _) (sizeW x) rfl (oneW x) ?_)
            | fail)
          change Code.wp _ _ _ _ (boxW w6 x)
          obtain ⟨w7, hw7⟩ : ∃ w7, w7 = boxW w6 x := ⟨_, rfl⟩
          obtain ⟨g7, hg7⟩ : ∃ g, g = w6.heap.size := ⟨_, rfl⟩
          rw [← hw7, ← hg7] at HA7
          rw [← hg7] at HG7
          rw [← hw7] at H2 HB7 ⊢
          rw [← hg7]
          clear hw7 hg7 HAT
          have c0 := HA7.out.c0
          have c2 := HA7.out.c2
          have c3 := HA7.out.c3
          have hcase : y = 0 ∨ y = 1 ∨ y = 2 := by omega
          rcases hcase with hy | hy | hy
          · subst hy
            have HO := hid (H2.out.of HOK.out.2.2.1)
            go_wp2_with fail
            refine (HPK3.out _).mono ?_
            rintro e w5 ⟨rfl, rfl⟩
            go_wp2_with fail
            refine HO.out.mono ?_
            rintro e w8 ⟨hf, s8, hh, er, rfl, hof, hR8⟩
            have HI8 := hid (TrI.to HB7.out H1.out hf hR8 (H3.out.of hof))
            clear hf hof hR8 H1 H2 H3 HB7 HO c0 c2 c3 HA7
            obtain ⟨S8, s8, q1, q2, q3⟩ := HI8.out.ex
            have HLK := hid (q2.lock HBU.out)
            rw [q3.lock q2.ok] at HLK
            have HB8 := hid HI8.out.b
            have HI9 := hid (show ∀ w9, Fr (fun _ => False) w8 w9 → TrI w (.pointer (some ⟨pb, 0, none⟩)) b t true w9 from fun w9 hf => ⟨⟨S8, s8, q1, q2.no hf, q3⟩, HB8.out.trans (hf.below (B := w.heap.size) HB8.out.size (fun _ e => e.elim))⟩)
            clear q1 q2 q3 HI8 HB8
            go_wp2_with fail
            refine HLK.out.mono ?_
            rintro e w9 ⟨rfl, hf9⟩
            have HI10 := hid (HI9.out w9 hf9)
            clear hf9 HLK HI9
            simp only [if_true]
            go_wp2
            go_roundw
            case rel => exact ⟨i + 1, true, by omega, by omega, by go_num, rfl, HI10⟩
            case measure => simp [intOf]; omega
          · subst hy
            have HO := hid (H2.out.die HOK.out.2.2.1)
            go_wp2_with fail
            refine (HPK3.out _).mono ?_
            rintro e w5 ⟨rfl, rfl⟩
            go_wp2_with fail
            refine HO.out.mono ?_
            rintro e w8 ⟨rfl, hf, hR8⟩
            have hAw : InWA w8 g7 x := by
              unfold InWA
              rw [hf.block g7 (Array.getElem?_eq_some_iff.1 HA7.out).1 (fun hk => HG7.out hk)]
              exact HA7.out
            have d2 := hAw.c2
            by_cases htt : x.t = t
            · have hqt : (x.t == t) = true := by simpa using htt
              have HI8 := hid (TrI.to HB7.out H1.out hf hR8 (by rw [htt]; exact (H3.out.die H2.out.ok).1))
              clear htt hf hR8 H1 H2 H3 HB7 HO c0 c2 c3 HA7 hAw
              obtain ⟨S8, s8, q1, q2, q3⟩ := HI8.out.ex
              have HLK := hid (q2.lock HBU.out)
              rw [q3.lock q2.ok] at HLK
              have HB8 := hid HI8.out.b
              have HI9 := hid (show ∀ w9, Fr (fun _ => False) w8 w9 → TrI w (.pointer (some ⟨pb, 0, none⟩)) b t true w9 from fun w9 hf => ⟨⟨S8, s8, q1, q2.no hf, q3⟩, HB8.out.trans (hf.below (B := w.heap.size) HB8.out.size (fun _ e => e.elim))⟩)
              clear q1 q2 q3 HI8 HB8
              go_wp2_with fail
              refine HLK.out.mono ?_
              rintro e w9 ⟨rfl, hf9⟩
              have HI10 := hid (HI9.out w9 hf9)
              clear hf9 HLK HI9
              simp only [if_true]
              go_wp2
              go_roundw
              case rel => exact ⟨i + 1, true, by omega, by omega, by go_num, rfl, HI10⟩
              case measure => simp [intOf]; omega
            · have hqt : (x.t == t) = false := by simpa using htt
              have HI8 := hid (TrI.to HB7.out H1.out hf hR8 (H3.out.other H2.out.ok htt))
              clear htt hf hR8 H1 H2 H3 HB7 HO c0 c2 c3 HA7 hAw
              obtain ⟨S8, s8, q1, q2, q3⟩ := HI8.out.ex
              have HLK := hid (q2.lock HBU.out)
              rw [q3.lock q2.ok] at HLK
              have HB8 := hid HI8.out.b
              have HI9 := hid (show ∀ w9, Fr (fun _ => False) w8 w9 → TrI w (.pointer (some ⟨pb, 0, none⟩)) b t true w9 from fun w9 hf => ⟨⟨S8, s8, q1, q2.no hf, q3⟩, HB8.out.trans (hf.below (B := w.heap.size) HB8.out.size (fun _ e => e.elim))⟩)
              clear q1 q2 q3 HI8 HB8
              go_wp2_with fail
              refine HLK.out.mono ?_
              rintro e w9 ⟨rfl, hf9⟩
              have HI10 := hid (HI9.out w9 hf9)
              clear hf9 HLK HI9
              simp only [if_true]
              go_wp2
              go_roundw
              case rel => exact ⟨i + 1, true, by omega, by omega, by go_num, rfl, HI10⟩
              case measure => simp [intOf]; omega
          · subst hy
            by_cases hrb : x.raw = b
            · have hqr : (x.raw != b) = false := by simpa using hrb
              clear hrb
              go_wp2_with fail
              refine (HPK3.out _).mono ?_
              rintro e w8 ⟨rfl, hw8⟩
              have HI8 := hid (show TrI w (.pointer (some ⟨pb, 0, none⟩)) b t true w8 from by rw [← hw8]; exact ⟨⟨S6, s6, H1.out, H2.out, H3.out⟩, HB7.out⟩)
              subst hw8
              clear H1 H2 H3 HB7 c0 c2 HA7
              obtain ⟨S8, s8, q1, q2, q3⟩ := HI8.out.ex
              have HLK := hid (q2.lock HBU.out)
              rw [q3.lock q2.ok] at HLK
              have HB8 := hid HI8.out.b
              have HI9 := hid (show ∀ w9, Fr (fun _ => False) w7 w9 → TrI w (.pointer (some ⟨pb, 0, none⟩)) b t true w9 from fun w9 hf => ⟨⟨S8, s8, q1, q2.no hf, q3⟩, HB8.out.trans (hf.below (B := w.heap.size) HB8.out.size (fun _ e => e.elim))⟩)
              clear q1 q2 q3 HI8 HB8
              go_wp2_with fail
              refine HLK.out.mono ?_
              rintro e w9 ⟨rfl, hf9⟩
              have HI10 := hid (HI9.out w9 hf9)
              clear hf9 HLK HI9
              simp only [if_true]
              go_wp2
              go_roundw
              case rel => exact ⟨i + 1, true, by omega, by omega, by go_num, rfl, HI10⟩
              case measure => simp [intOf]; omega
            · have hqr : (x.raw != b) = true := by simpa using hrb
              have HO := hid (H2.out.dn HOK.out.2.2.2)
              go_wp2_with fail
              refine (HPK3.out _).mono ?_
              rintro e w5 ⟨rfl, rfl⟩
              go_wp2_with fail
              refine HO.out.mono ?_
              rintro e w8 ⟨hf, s8, nn, er, rfl, hdn, hR8⟩
              have HI8 := hid (TrI.to HB7.out H1.out hf hR8 (H3.out.dn hrb hdn))
              clear hf hdn hR8 H1 H2 H3 HB7 HO c0 c2 c3 HA7 hrb
              obtain ⟨S8, s8, q1, q2, q3⟩ := HI8.out.ex
              have HLK := hid (q2.lock HBU.out)
              rw [q3.lock q2.ok] at HLK
              have HB8 := hid HI8.out.b
              have HI9 := hid (show ∀ w9, Fr (fun _ => False) w8 w9 → TrI w (.pointer (some ⟨pb, 0, none⟩)) b t true w9 from fun w9 hf => ⟨⟨S8, s8, q1, q2.no hf, q3⟩, HB8.out.trans (hf.below (B := w.heap.size) HB8.out.size (fun _ e => e.elim))⟩)
              clear q1 q2 q3 HI8 HB8
              go_wp2_with fail
              refine HLK.out.mono ?_
              rintro e w9 ⟨rfl, hf9⟩
              have HI10 := hid (HI9.out w9 hf9)
              clear hf9 HLK HI9
              simp only [if_true]
              go_wp2
              go_roundw
              case rel => exact ⟨i + 1, true, by omega, by omega, by go_num, rfl, HI10⟩
              case measure => simp [intOf]; omega
        | false =>
          obtain rfl : dd = true := HK2.out rfl
          clear HK2 hr
          have HAT := hid ((HL.out.below HI6.out.b).rows ab ao rfl i x HX.out)
          have hbb := boxW_below w6 x
          have HA7 := hid (boxW_row w6 x)
          obtain ⟨S6, s6, h1, h2, h3⟩ := HI6.out.ex
          have H1 := hid h1
          have H2 := hid (h2.no (Fr.of_below hbb))
          have HG7 := hid (show ¬ S6 w6.heap.size from fun hk => by have := h2.lt _ hk; omega)
          have H3 := hid h3
          have HB7 := hid (HI6.out.b.trans (hbb.mono HI6.out.b.size))
          clear h1 h2 h3 hbb HI6
          go_upto_region 12 with (first
            | ((with_reducible refine at_op ⟨some 54, _, _, _, _, _⟩ ?_); refine wpList_run rfl _ (load_wact rfl rfl HAT.out) ?_)
            | ((with_reducible refine at_op ⟨none, .store 37 (.tmp 13) (.tmp 54), _, _, _, _⟩ ?_); refine wpList_store_row rfl 37 _ _ rfl w6.heap.size (wac x).toArray rfl rfl 37 zWAct (heap_alloc_new _ _) (sizeW x) rfl (oneW x) ?_)
            | fail)
          change Code.wp _ _ _ _ (boxW w6 x)
          obtain ⟨w7, hw7⟩ : ∃ w7, w7 = boxW w6 x := ⟨_, rfl⟩
          obtain ⟨g7, hg7⟩ : ∃ g, g = w6.heap.size := ⟨_, rfl⟩
          rw [← hw7, ← hg7] at HA7
          rw [← hg7] at HG7
          rw [← hw7] at H2 HB7 ⊢
          rw [← hg7]
          clear hw7 hg7 HAT
          have c0 := HA7.out.c0
          have c2 := HA7.out.c2
          have c3 := HA7.out.c3
          have hcase : y = 0 ∨ y = 1 ∨ y = 2 := by omega
          rcases hcase with hy | hy | hy
          · subst hy
            have HO := hid (H2.out.of HOK.out.2.2.1)
            go_wp2_with fail
            refine (HPK3.out _).mono ?_
            rintro e w5 ⟨rfl, rfl⟩
            go_wp2_with fail
            refine HO.out.mono ?_
            rintro e w8 ⟨hf, s8, hh, er, rfl, hof, hR8⟩
            have HI8 := hid (TrI.to HB7.out H1.out hf hR8 (H3.out.of hof))
            clear hf hof hR8 H1 H2 H3 HB7 HO c0 c2 c3 HA7
            obtain ⟨S8, s8, q1, q2, q3⟩ := HI8.out.ex
            have HLK := hid (q2.lock HBU.out)
            rw [q3.lock q2.ok] at HLK
            have HB8 := hid HI8.out.b
            have HI9 := hid (show ∀ w9, Fr (fun _ => False) w8 w9 → TrI w (.pointer (some ⟨pb, 0, none⟩)) b t true w9 from fun w9 hf => ⟨⟨S8, s8, q1, q2.no hf, q3⟩, HB8.out.trans (hf.below (B := w.heap.size) HB8.out.size (fun _ e => e.elim))⟩)
            clear q1 q2 q3 HI8 HB8
            go_wp2_with fail
            refine HLK.out.mono ?_
            rintro e w9 ⟨rfl, hf9⟩
            have HI10 := hid (HI9.out w9 hf9)
            clear hf9 HLK HI9
            simp only [if_true]
            go_wp2
            go_roundw
            case rel => exact ⟨i + 1, true, by omega, by omega, by go_num, rfl, HI10⟩
            case measure => simp [intOf]; omega
          · subst hy
            have HO := hid (H2.out.die HOK.out.2.2.1)
            go_wp2_with fail
            refine (HPK3.out _).mono ?_
            rintro e w5 ⟨rfl, rfl⟩
            go_wp2_with fail
            refine HO.out.mono ?_
            rintro e w8 ⟨rfl, hf, hR8⟩
            have hAw : InWA w8 g7 x := by
              unfold InWA
              rw [hf.block g7 (Array.getElem?_eq_some_iff.1 HA7.out).1 (fun hk => HG7.out hk)]
              exact HA7.out
            have d2 := hAw.c2
            by_cases htt : x.t = t
            · have hqt : (x.t == t) = true := by simpa using htt
              have HI8 := hid (TrI.to HB7.out H1.out hf hR8 (by rw [htt]; exact (H3.out.die H2.out.ok).1))
              clear htt hf hR8 H1 H2 H3 HB7 HO c0 c2 c3 HA7 hAw
              obtain ⟨S8, s8, q1, q2, q3⟩ := HI8.out.ex
              have HLK := hid (q2.lock HBU.out)
              rw [q3.lock q2.ok] at HLK
              have HB8 := hid HI8.out.b
              have HI9 := hid (show ∀ w9, Fr (fun _ => False) w8 w9 → TrI w (.pointer (some ⟨pb, 0, none⟩)) b t true w9 from fun w9 hf => ⟨⟨S8, s8, q1, q2.no hf, q3⟩, HB8.out.trans (hf.below (B := w.heap.size) HB8.out.size (fun _ e => e.elim))⟩)
              clear q1 q2 q3 HI8 HB8
              go_wp2_with fail
              refine HLK.out.mono ?_
              rintro e w9 ⟨rfl, hf9⟩
              have HI10 := hid (HI9.out w9 hf9)
              clear hf9 HLK HI9
              simp only [if_true]
              go_wp2
              go_roundw
              case rel => exact ⟨i + 1, true, by omega, by omega, by go_num, rfl, HI10⟩
              case measure => simp [intOf]; omega
            · have hqt : (x.t == t) = false := by simpa using htt
              have HI8 := hid (TrI.to HB7.out H1.out hf hR8 (H3.out.other H2.out.ok htt))
              clear htt hf hR8 H1 H2 H3 HB7 HO c0 c2 c3 HA7 hAw
              obtain ⟨S8, s8, q1, q2, q3⟩ := HI8.out.ex
              have HLK := hid (q2.lock HBU.out)
              rw [q3.lock q2.ok] at HLK
              have HB8 := hid HI8.out.b
              have HI9 := hid (show ∀ w9, Fr (fun _ => False) w8 w9 → TrI w (.pointer (some ⟨pb, 0, none⟩)) b t true w9 from fun w9 hf => ⟨⟨S8, s8, q1, q2.no hf, q3⟩, HB8.out.trans (hf.below (B := w.heap.size) HB8.out.size (fun _ e => e.elim))⟩)
              clear q1 q2 q3 HI8 HB8
              go_wp2_with fail
              refine HLK.out.mono ?_
              rintro e w9 ⟨rfl, hf9⟩
              have HI10 := hid (HI9.out w9 hf9)
              clear hf9 HLK HI9
              simp only [if_true]
              go_wp2
              go_roundw
              case rel => exact ⟨i + 1, true, by omega, by omega, by go_num, rfl, HI10⟩
              case measure => simp [intOf]; omega
          · subst hy
            by_cases hrb : x.raw = b
            · have hqr : (x.raw != b) = false := by simpa using hrb
              clear hrb
              go_wp2_with fail
              refine (HPK3.out _).mono ?_
              rintro e w8 ⟨rfl, hw8⟩
              have HI8 := hid (show TrI w (.pointer (some ⟨pb, 0, none⟩)) b t true w8 from by rw [← hw8]; exact ⟨⟨S6, s6, H1.out, H2.out, H3.out⟩, HB7.out⟩)
              subst hw8
              clear H1 H2 H3 HB7 c0 c2 HA7
              obtain ⟨S8, s8, q1, q2, q3⟩ := HI8.out.ex
              have HLK := hid (q2.lock HBU.out)
              rw [q3.lock q2.ok] at HLK
              have HB8 := hid HI8.out.b
              have HI9 := hid (show ∀ w9, Fr (fun _ => False) w7 w9 → TrI w (.pointer (some ⟨pb, 0, none⟩)) b t true w9 from fun w9 hf => ⟨⟨S8, s8, q1, q2.no hf, q3⟩, HB8.out.trans (hf.below (B := w.heap.size) HB8.out.size (fun _ e => e.elim))⟩)
              clear q1 q2 q3 HI8 HB8
              go_wp2_with fail
              refine HLK.out.mono ?_
              rintro e w9 ⟨rfl, hf9⟩
              have HI10 := hid (HI9.out w9 hf9)
              clear hf9 HLK HI9
              simp only [if_true]
              go_wp2
              go_roundw
              case rel => exact ⟨i + 1, true, by omega, by omega, by go_num, rfl, HI10⟩
              case measure => simp [intOf]; omega
            · have hqr : (x.raw != b) = true := by simpa using hrb
              have HO := hid (H2.out.dn HOK.out.2.2.2)
              go_wp2_with fail
              refine (HPK3.out _).mono ?_
              rintro e w5 ⟨rfl, rfl⟩
              go_wp2_with fail
              refine HO.out.mono ?_
              rintro e w8 ⟨hf, s8, nn, er, rfl, hdn, hR8⟩
              have HI8 := hid (TrI.to HB7.out H1.out hf hR8 (H3.out.dn hrb hdn))
              clear hf hdn hR8 H1 H2 H3 HB7 HO c0 c2 c3 HA7 hrb
              obtain ⟨S8, s8, q1, q2, q3⟩ := HI8.out.ex
              have HLK := hid (q2.lock HBU.out)
              rw [q3.lock q2.ok] at HLK
              have HB8 := hid HI8.out.b
              have HI9 := hid (show ∀ w9, Fr (fun _ => False) w8 w9 → TrI w (.pointer (some ⟨pb, 0, none⟩)) b t true w9 from fun w9 hf => ⟨⟨S8, s8, q1, q2.no hf, q3⟩, HB8.out.trans (hf.below (B := w.heap.size) HB8.out.size (fun _ e => e.elim))⟩)
              clear q1 q2 q3 HI8 HB8
              go_wp2_with fail
              refine HLK.out.mono ?_
              rintro e w9 ⟨rfl, hf9⟩
              have HI10 := hid (HI9.out w9 hf9)
              clear hf9 HLK HI9
              simp only [if_true]
              go_wp2
              go_roundw
              case rel => exact ⟨i + 1, true, by omega, by omega, by go_num, rfl, HI10⟩
              case measure => simp [intOf]; omega
      · have hq : ((i : Int) == z) = false := by simpa using hiz
        clear hiz
        obtain ⟨w6, hw6⟩ : ∃ w6, w6 = wr := ⟨_, rfl⟩
        rw [← hw6] at HIi ⊢
        have HI6 := HIi
        clear hw6 HIi
        go_wp2_with fail
        refine (HPK.out _).mono ?_
        rintro e w5 ⟨rfl, rfl⟩
        have HAT := hid ((HL.out.below HI6.out.b).rows ab ao rfl i x HX.out)
        have hbb := boxW_below w6 x
        have HA7 := hid (boxW_row w6 x)
        obtain ⟨S6, s6, h1, h2, h3⟩ := HI6.out.ex
        have H1 := hid h1
        have H2 := hid (h2.no (Fr.of_below hbb))
        have HG7 := hid (show ¬ S6 w6.heap.size from fun hk => by have := h2.lt _ hk; omega)
        have H3 := hid h3
        have HB7 := hid (HI6.out.b.trans (hbb.mono HI6.out.b.size))
        clear h1 h2 h3 hbb HI6
        go_upto_region 12 with (first
          | ((with_reducible refine at_op ⟨some 54, _, _, _, _, _⟩ ?_); refine wpList_run rfl _ (load_wact rfl rfl HAT.out) ?_)
          | ((with_reducible refine at_op ⟨none, .store 37 (.tmp 13) (.tmp 54), _, _, _, _⟩ ?_); refine wpList_store_row rfl 37 _ _ rfl w6.heap.size (wac x).toArray rfl rfl 37 zWAct (heap_alloc_new _ _) (sizeW x) rfl (oneW x) ?_)
          | fail)
        change Code.wp _ _ _ _ (boxW w6 x)
        obtain ⟨w7, hw7⟩ : ∃ w7, w7 = boxW w6 x := ⟨_, rfl⟩
        obtain ⟨g7, hg7⟩ : ∃ g, g = w6.heap.size := ⟨_, rfl⟩
        rw [← hw7, ← hg7] at HA7
        rw [← hg7] at HG7
        rw [← hw7] at H2 HB7 ⊢
        rw [← hg7]
        clear hw7 hg7 HAT
        have c0 := HA7.out.c0
        have c2 := HA7.out.c2
        have c3 := HA7.out.c3
        have hcase : y = 0 ∨ y = 1 ∨ y = 2 := by omega
        rcases hcase with hy | hy | hy
        · subst hy
          have HO := hid (H2.out.of HOK.out.2.2.1)
          go_wp2_with fail
          refine (HPK3.out _).mono ?_
          rintro e w5 ⟨rfl, rfl⟩
          go_wp2_with fail
          refine HO.out.mono ?_
          rintro e w8 ⟨hf, s8, hh, er, rfl, hof, hR8⟩
          have HI8 := hid (TrI.to HB7.out H1.out hf hR8 (H3.out.of hof))
          clear hf hof hR8 H1 H2 H3 HB7 HO c0 c2 c3 HA7
          obtain ⟨S8, s8, q1, q2, q3⟩ := HI8.out.ex
          have HLK := hid (q2.lock HBU.out)
          rw [q3.lock q2.ok] at HLK
          have HB8 := hid HI8.out.b
          have HI9 := hid (show ∀ w9, Fr (fun _ => False) w8 w9 → TrI w (.pointer (some ⟨pb, 0, none⟩)) b t dd w9 from fun w9 hf => ⟨⟨S8, s8, q1, q2.no hf, q3⟩, HB8.out.trans (hf.below (B := w.heap.size) HB8.out.size (fun _ e => e.elim))⟩)
          clear q1 q2 q3 HI8 HB8
          cases dd with
          | true =>
            go_wp2_with fail
            refine HLK.out.mono ?_
            rintro e w9 ⟨rfl, hf9⟩
            have HI10 := hid (HI9.out w9 hf9)
            clear hf9 HLK HI9
            simp only [if_true]
            go_wp2
            go_roundw
            case rel => exact ⟨i + 1, true, by omega, by omega, by go_num, rfl, HI10⟩
            case measure => simp [intOf]; omega
          | false =>
            go_wp2_with fail
            refine HLK.out.mono ?_
            rintro e w9 ⟨rfl, hf9⟩
            have HI10 := hid (HI9.out w9 hf9)
            clear hf9 HLK HI9
            simp only [Bool.false_eq_true, if_false]
            go_wp2
            go_roundw
            case rel => exact ⟨i + 1, false, by omega, by omega, by go_num, rfl, HI10⟩
            case measure => simp [intOf]; omega
        · subst hy
          have HO := hid (H2.out.die HOK.out.2.2.1)
          go_wp2_with fail
          refine (HPK3.out _).mono ?_
          rintro e w5 ⟨rfl, rfl⟩
          go_wp2_with fail
          refine HO.out.mono ?_
          rintro e w8 ⟨rfl, hf, hR8⟩
          have hAw : InWA w8 g7 x := by
            unfold InWA
            rw [hf.block g7 (Array.getElem?_eq_some_iff.1 HA7.out).1 (fun hk => HG7.out hk)]
            exact HA7.out
          have d2 := hAw.c2
          by_cases htt : x.t = t
          · have hqt : (x.t == t) = true := by simpa using htt
            have HI8 := hid (TrI.to HB7.out H1.out hf hR8 (by rw [htt]; exact (H3.out.die H2.out.ok).1))
            clear htt hf hR8 H1 H2 H3 HB7 HO c0 c2 c3 HA7 hAw
            cases dd with
            | true =>
              obtain ⟨S8, s8, q1, q2, q3⟩ := HI8.out.ex
              have HLK := hid (q2.lock HBU.out)
              rw [q3.lock q2.ok] at HLK
              have HB8 := hid HI8.out.b
              have HI9 := hid (show ∀ w9, Fr (fun _ => False) w8 w9 → TrI w (.pointer (some ⟨pb, 0, none⟩)) b t true w9 from fun w9 hf => ⟨⟨S8, s8, q1, q2.no hf, q3⟩, HB8.out.trans (hf.below (B := w.heap.size) HB8.out.size (fun _ e => e.elim))⟩)
              clear q1 q2 q3 HI8 HB8
              go_wp2_with fail
              refine HLK.out.mono ?_
              rintro e w9 ⟨rfl, hf9⟩
              have HI10 := hid (HI9.out w9 hf9)
              clear hf9 HLK HI9
              simp only [if_true]
              go_wp2
              go_roundw
              case rel => exact ⟨i + 1, true, by omega, by omega, by go_num, rfl, HI10⟩
              case measure => simp [intOf]; omega
            | false =>
              obtain ⟨S8, s8, q1, q2, q3⟩ := HI8.out.ex
              have HLK := hid (q2.lock HBU.out)
              rw [q3.lock q2.ok] at HLK
              have HB8 := hid HI8.out.b
              have HI9 := hid (show ∀ w9, Fr (fun _ => False) w8 w9 → TrI w (.pointer (some ⟨pb, 0, none⟩)) b t true w9 from fun w9 hf => ⟨⟨S8, s8, q1, q2.no hf, q3⟩, HB8.out.trans (hf.below (B := w.heap.size) HB8.out.size (fun _ e => e.elim))⟩)
              clear q1 q2 q3 HI8 HB8
              go_wp2_with fail
              refine HLK.out.mono ?_
              rintro e w9 ⟨rfl, hf9⟩
              have HI10 := hid (HI9.out w9 hf9)
              clear hf9 HLK HI9
              simp only [if_true]
              go_wp2
              go_roundw
              case rel => exact ⟨i + 1, true, by omega, by omega, by go_num, rfl, HI10⟩
              case measure => simp [intOf]; omega
          · have hqt : (x.t == t) = false := by simpa using htt
            have HI8 := hid (TrI.to HB7.out H1.out hf hR8 (H3.out.other H2.out.ok htt))
            clear htt hf hR8 H1 H2 H3 HB7 HO c0 c2 c3 HA7 hAw
            obtain ⟨S8, s8, q1, q2, q3⟩ := HI8.out.ex
            have HLK := hid (q2.lock HBU.out)
            rw [q3.lock q2.ok] at HLK
            have HB8 := hid HI8.out.b
            have HI9 := hid (show ∀ w9, Fr (fun _ => False) w8 w9 → TrI w (.pointer (some ⟨pb, 0, none⟩)) b t dd w9 from fun w9 hf => ⟨⟨S8, s8, q1, q2.no hf, q3⟩, HB8.out.trans (hf.below (B := w.heap.size) HB8.out.size (fun _ e => e.elim))⟩)
            clear q1 q2 q3 HI8 HB8
            cases dd with
            | true =>
              go_wp2_with fail
              refine HLK.out.mono ?_
              rintro e w9 ⟨rfl, hf9⟩
              have HI10 := hid (HI9.out w9 hf9)
              clear hf9 HLK HI9
              simp only [if_true]
              go_wp2
              go_roundw
              case rel => exact ⟨i + 1, true, by omega, by omega, by go_num, rfl, HI10⟩
              case measure => simp [intOf]; omega
            | false =>
              go_wp2_with fail
              refine HLK.out.mono ?_
              rintro e w9 ⟨rfl, hf9⟩
              have HI10 := hid (HI9.out w9 hf9)
              clear hf9 HLK HI9
              simp only [Bool.false_eq_true, if_false]
              go_wp2
              go_roundw
              case rel => exact ⟨i + 1, false, by omega, by omega, by go_num, rfl, HI10⟩
              case measure => simp [intOf]; omega
        · subst hy
          by_cases hrb : x.raw = b
          · have hqr : (x.raw != b) = false := by simpa using hrb
            clear hrb
            go_wp2_with fail
            refine (HPK3.out _).mono ?_
            rintro e w8 ⟨rfl, hw8⟩
            have HI8 := hid (show TrI w (.pointer (some ⟨pb, 0, none⟩)) b t dd w8 from by rw [← hw8]; exact ⟨⟨S6, s6, H1.out, H2.out, H3.out⟩, HB7.out⟩)
            subst hw8
            clear H1 H2 H3 HB7 c0 c2 HA7
            obtain ⟨S8, s8, q1, q2, q3⟩ := HI8.out.ex
            have HLK := hid (q2.lock HBU.out)
            rw [q3.lock q2.ok] at HLK
            have HB8 := hid HI8.out.b
            have HI9 := hid (show ∀ w9, Fr (fun _ => False) w7 w9 → TrI w (.pointer (some ⟨pb, 0, none⟩)) b t dd w9 from fun w9 hf => ⟨⟨S8, s8, q1, q2.no hf, q3⟩, HB8.out.trans (hf.below (B := w.heap.size) HB8.out.size (fun _ e => e.elim))⟩)
            clear q1 q2 q3 HI8 HB8
            cases dd with
            | true =>
              go_wp2_with fail
              refine HLK.out.mono ?_
              rintro e w9 ⟨rfl, hf9⟩
              have HI10 := hid (HI9.out w9 hf9)
              clear hf9 HLK HI9
              simp only [if_true]
              go_wp2
              go_roundw
              case rel => exact ⟨i + 1, true, by omega, by omega, by go_num, rfl, HI10⟩
              case measure => simp [intOf]; omega
            | false =>
              go_wp2_with fail
              refine HLK.out.mono ?_
              rintro e w9 ⟨rfl, hf9⟩
              have HI10 := hid (HI9.out w9 hf9)
              clear hf9 HLK HI9
              simp only [Bool.false_eq_true, if_false]
              go_wp2
              go_roundw
              case rel => exact ⟨i + 1, false, by omega, by omega, by go_num, rfl, HI10⟩
              case measure => simp [intOf]; omega
          · have hqr : (x.raw != b) = true := by simpa using hrb
            have HO := hid (H2.out.dn HOK.out.2.2.2)
            go_wp2_with fail
            refine (HPK3.out _).mono ?_
            rintro e w5 ⟨rfl, rfl⟩
            go_wp2_with fail
            refine HO.out.mono ?_
            rintro e w8 ⟨hf, s8, nn, er, rfl, hdn, hR8⟩
            have HI8 := hid (TrI.to HB7.out H1.out hf hR8 (H3.out.dn hrb hdn))
            clear hf hdn hR8 H1 H2 H3 HB7 HO c0 c2 c3 HA7 hrb
            obtain ⟨S8, s8, q1, q2, q3⟩ := HI8.out.ex
            have HLK := hid (q2.lock HBU.out)
            rw [q3.lock q2.ok] at HLK
            have HB8 := hid HI8.out.b
            have HI9 := hid (show ∀ w9, Fr (fun _ => False) w8 w9 → TrI w (.pointer (some ⟨pb, 0, none⟩)) b t dd w9 from fun w9 hf => ⟨⟨S8, s8, q1, q2.no hf, q3⟩, HB8.out.trans (hf.below (B := w.heap.size) HB8.out.size (fun _ e => e.elim))⟩)
            clear q1 q2 q3 HI8 HB8
            cases dd with
            | true =>
              go_wp2_with fail
              refine HLK.out.mono ?_
              rintro e w9 ⟨rfl, hf9⟩
              have HI10 := hid (HI9.out w9 hf9)
              clear hf9 HLK HI9
              simp only [if_true]
              go_wp2
              go_roundw
              case rel => exact ⟨i + 1, true, by omega, by omega, by go_num, rfl, HI10⟩
              case measure => simp [intOf]; omega
            | false =>
              go_wp2_with fail
              refine HLK.out.mono ?_
              rintro e w9 ⟨rfl, hf9⟩
              have HI10 := hid (HI9.out w9 hf9)
              clear hf9 HLK HI9
              simp only [Bool.false_eq_true, if_false]
              go_wp2
              go_roundw
              case rel => exact ⟨i + 1, false, by omega, by omega, by go_num, rfl, HI10⟩
              case measure => simp [intOf]; omega
    · have HB := hid HIi.out.b
      have hlt2 : i = l.length ∨ i = 100 := by omega
      clear hgo HIi
      rcases hlt2 with rfl | rfl
      all_goals
        go_wp2_with (refine (wawake wr).mono ?_; rintro e w2 ⟨rfl, hb2⟩)
        all_goals
          go_ret
          exact ⟨rfl, HB.out.trans (hb2.mono HB.out.size)⟩
end Go.Proofs.Ytmampaglemleoab
