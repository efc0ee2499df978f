/-
  WeakEnds' walk.
-/
import Derived.Test.YtmampaglemleoabWkN
import Derived.Test.YtmampaglemleoabWkK
import Derived.Test.YtmampaglemleoabWkAct
namespace Go.Proofs.Ytmampaglemleoab
open Go Go.ChangeShapes Go.WideShapes Go.ChangeAt Go.RowKit

theorem RwU.at' {W : World} {B : Nat} {ad : Option Addr} {l : List Int} (h : RwU W B ad l) {i : Nat} {x : Int} (hx : l[i]? = some x) : ∃ b o, ad = some ⟨b, o, none⟩ ∧ W.cell? ⟨b, o + i, none⟩ = some (.int .u64 x) := by
  obtain ⟨b, o, h1, h2⟩ := h.at_ (by have := (List.getElem?_eq_some_iff.1 hx).1; omega)
  have := h.rows b o h1 i x hx 0 _ rfl
  simp only [Nat.mul_one, Nat.add_zero] at this
  exact ⟨b, o, h1, this⟩
theorem RwT.at' {W : World} {B : Nat} {ad : Option Addr} {l : List Bool} (h : RwT W B ad l) {i : Nat} {x : Bool} (hx : l[i]? = some x) : ∃ b o, ad = some ⟨b, o, none⟩ ∧ W.cell? ⟨b, o + i, none⟩ = some (.bool x) := by
  obtain ⟨b, o, h1, h2⟩ := h.at_ (by have := (List.getElem?_eq_some_iff.1 hx).1; omega)
  have := h.rows b o h1 i x hx 0 _ rfl
  simp only [Nat.mul_one, Nat.add_zero] at this
  exact ⟨b, o, h1, this⟩
/-- What is under way: blocks that were given. -/
structure EnI (w : World) (p gv : Value) (i : Nat) (G : List Int) (wr : World) : Prop where
  ex : ∃ S s, RowS TU u64v S w.heap.size wr gv G ∧ (∀ b, S b → w.heap.size ≤ b) ∧ RpW S wr p s ∧ EJ s G ∧ s.A.L.length ≤ i ∧ s.A.most = 100
  b : Below w.heap.size w wr
  len : G.length = i
/-- .. and are counted down. -/
structure EnK (w : World) (p gv : Value) (j : Nat) (G : List Int) (wr : World) : Prop where
  ex : ∃ S s, RowS TU u64v S w.heap.size wr gv G ∧ (∀ b, S b → w.heap.size ≤ b) ∧ RpW S wr p s ∧ EJ s (G.drop j)
  b : Below w.heap.size w wr
theorem bls_nil {s : Ws} (h : WkI s) (h0 : s.L = []) : bls s.A s.L = [] := by
  have : pairF 0 s.A.L = [] := by
    cases hp : pairF 0 s.A.L with
    | nil => rfl
    | cons x l =>
      obtain ⟨i, sp, h1, h2, _⟩ := pairF_mem s.A.L 0 x (by rw [hp]; simp)
      obtain ⟨b, hb, _⟩ := h.co i sp h1 h2
      rw [h0] at hb
      cases hb
  unfold bls
  rw [this]
  rfl
set_option maxRecDepth 100000 in
set_option maxHeartbeats 8000000 in
theorem WeakEnds_any (w : World) (ad bd : Option Addr) (c d : Nat) (l : List Int) (k : List Bool) (hl : RwU w w.heap.size ad l) (hk : RwT w w.heap.size bd k) (hll : l.length ≤ 9223372036854775807) (_ : k.length ≤ 9223372036854775807) :
    Calls Try.prog 6 #[.slice ad l.length c, .slice bd k.length d] w fun e w' => e = .returned (.bool true) ∧ Below w.heap.size w w' := by
  have HL := hid hl
  have HK := hid hk
  have HN := hid (RpW.new 100 w (by omega))
  obtain ⟨i0, hi, hz0, hz1, hz2⟩ := info_parts infoUw
  have hi' := hid hi
  have hz0' := hid hz0
  have hz1' := hid hz1
  have hz2' := hid hz2
  clear hl hk hi hz0 hz1 hz2
  go_enter Try.func6, Try.ntmps6
  go_wp2_with fail
  refine HN.out.mono ?_
  rintro e w1 ⟨hb1, p, S, rfl, hS, hR⟩
  obtain ⟨pb, rfl⟩ := hR.ptr
  have HI := hid (show EnI w (.pointer (some ⟨pb, 0, none⟩)) (.slice none 0 0) 0 [] w1 from ⟨⟨S, _, RowS.nil _ _ _ _ _, hS, hR, EJ.nil _, by simp [new], by simp [new]⟩, hb1, rfl⟩)
  clear hb1 hS hR HN
  go_wp2
  go_loopw [8, 7] (fun i8 v7 wr => ∃ (i : Nat) (G : List Int), i ≤ l.length ∧ i ≤ 60 ∧ i8 = .int .i64 i ∧ RowKit.Hid (EnI w (.pointer (some ⟨pb, 0, none⟩)) v7 i G wr)) (fun i8 _ _ => 60 - (intOf i8).toNat)
  case atStart => exact ⟨0, [], by omega, by omega, rfl, HI⟩
  case round =>
    obtain ⟨i, G, hil, hi60, rfl, HIi⟩ := hrel
    clear HI
    by_cases hgo : i < l.length ∧ i < 60
    · obtain ⟨hg1, hg2⟩ := hgo
      have hx : l[i]? = some (l[i]'hg1) := List.getElem?_eq_getElem hg1
      generalize l[i]'hg1 = x at hx
      obtain ⟨b, o, rfl, cx⟩ := RwU.at' (HL.out.below HIi.out.b) hx
      have hxu := HL.out.ok x (List.mem_of_getElem? hx)
      obtain ⟨S, s, h1, h2, h3, h4, h5, h6⟩ := HIi.out.ex
      obtain ⟨av, kv, hv5, hkv1, hkv2, hgv⟩ := h1.form
      subst hv5
      have hlen := HIi.out.len
      rw [hlen] at hkv1
      have HOF := hid (h3.of hxu)
      have H1 := hid h1
      have H2 := hid h2
      have H4 := hid h4
      have HWI := hid h3.ok
      have HB := hid HIi.out.b
      have H5 := hid h5
      have H6 := hid h6
      have HXU := hid hxu
      have HLEN := hid hlen
      have HX := hid hx
      rw [hlen]
      clear hx h1 h2 h3 h4 h5 h6 hgv HIi hlen hxu
      go_wp2_with fail
      refine HOF.out.mono ?_
      rintro e w5 ⟨hf, s5, h, er, rfl, hof, hR5⟩
      obtain rfl : er = 0 := hof.ok (by have := H5.out; have := H6.out; omega) (fun b hb => by have := H4.out.le hb; have := HLEN.out; omega)
      have hb5 : Below w.heap.size w w5 := HB.out.trans (hf.below HB.out.size H2.out)
      have HRow := hid (H1.out.fr hf)
      have HR5 := hid hR5
      have HLT := hid hR5.lt
      have HS5 := hid (exS_gt (w' := w5) H2.out HB.out.size)
      have HJ5 := hid (H4.out.of HWI.out hof)
      have HP5 := hid (show s5.A.L.length ≤ i + 1 ∧ s5.A.most = 100 by have h1 := hof.places; have := H5.out; have := H6.out; omega)
      have HB5 := hid hb5
      clear hf hof hR5 H1 H4 H5 H6 HOF HB hb5 cx H2 HWI
      go_upto_region 12 with (first
        | (at_builtin; refine wpList_append_own_at _ (o := ⟨some 46, _, _, _, _, _⟩) rfl (.tmp 43) (.tmp 45) 31 rfl w.heap.size 35 i0 (.int .u64 0) 1 8 Try.underlying31 hi'.out hz0'.out hz1'.out hz2'.out rfl (by decide) (.slice av i kv) _ _ rfl (by have := HRow.out.own; rw [HLEN.out] at this; exact this.alloc _) ⟨w5.heap.size, 0, none⟩ 1 1 [.int .u64 h] rfl rfl (World.news_of_block (heap_alloc_new w5 _)) (fun u hu => by rw [List.mem_singleton.1 hu]; rfl) (by unfold maxLen; omega) (by omega) (by have := HB5.out.size; simp; omega) ?_; intro vz wz hownz hgrowz hnilz hatz; have HOz := hid hownz; have HGz := hid hgrowz; have HAz := hid hatz; clear hownz hgrowz hnilz hatz)
        | fail)
      have hob : ∀ j, (Value.slice av i kv).ownBlock = some j → w.heap.size ≤ j ∧ ¬ exS S wr w5 j := fun j hj => by
        have e : (Value.slice av G.length kv).ownBlock = some j := by cases av <;> exact hj
        exact ⟨(HRow.out.own.lt j e).1, HRow.out.off j e⟩
      have hoe : (Value.slice av G.length kv).ownBlock = (Value.slice av i kv).ownBlock := by cases av <;> rfl
      obtain ⟨hr7, hf7⟩ := HRow.out.app (x := h) HLT.out HOz.out (by rw [hoe]; exact HGz.out) (by rw [hoe]; exact HAz.out)
      rw [hoe] at hf7
      have hR7 := HR5.out.fr hf7 (fun b hb hk => (hob b hk).2 hb)
      have HB7 := hid (HB5.out.trans (hf7.below HB5.out.size fun j hj => (hob j hj).1))
      have HLT7 := hid hR7.lt
      have HDIE := hid (hR7.die HXU.out)
      have HRow7 := hid hr7
      have HR7 := hid hR7
      have HG7 := hid (show (G ++ [h]).length = i + 1 by have := HLEN.out; simp; omega)
      clear hr7 hf7 hR7 hob hoe HOz HGz HAz HRow HR5 HLT HB5 HLEN
      by_cases hdies : i < k.length ∧ k[i]? = some true
      · obtain ⟨hd1, hd2⟩ := hdies
        obtain ⟨b2, o2, rfl, cd⟩ := RwT.at' (HK.out.below HB7.out) hd2
        obtain ⟨b3, o3, he3, cx⟩ := RwU.at' (HL.out.below HB7.out) HX.out
        cases he3
        clear hd2
        go_wp2_with fail
        refine HDIE.out.mono ?_
        rintro e w8 ⟨rfl, hf, hR8⟩
        have HI8 := hid (show EnI w (.pointer (some ⟨pb, 0, none⟩)) vz (i + 1) (G ++ [h]) w8 from ⟨⟨_, _, HRow7.out.fr hf, exS_gt HS5.out HB7.out.size, hR8, HJ5.out.die x, HP5.out⟩, HB7.out.trans (hf.below HB7.out.size HS5.out), HG7.out⟩)
        clear hf hR8 HDIE HRow7 HR7 HJ5 HP5 HB7 HLT7 HS5 HG7 cd cx
        go_wp2
        go_roundw
        case rel => exact ⟨i + 1, G ++ [h], by omega, by omega, by go_num, HI8⟩
        case measure => simp [intOf]; omega
      · have HI8 := hid (show EnI w (.pointer (some ⟨pb, 0, none⟩)) vz (i + 1) (G ++ [h]) wz from ⟨⟨_, _, HRow7.out, HS5.out, HR7.out, HJ5.out, HP5.out⟩, HB7.out, HG7.out⟩)
        by_cases hd1 : i < k.length
        · have hd2 : k[i]? = some false := by
            rw [List.getElem?_eq_getElem hd1]
            cases hq : k[i] with
            | true => exact absurd ⟨hd1, by rw [List.getElem?_eq_getElem hd1, hq]⟩ hdies
            | false => rfl
          obtain ⟨b2, o2, rfl, cd⟩ := RwT.at' (HK.out.below HB7.out) hd2
          clear hd2 hdies HDIE HRow7 HR7 HJ5 HP5 HB7 HLT7 HS5 HG7
          go_wp2
          go_roundw
          case rel => exact ⟨i + 1, G ++ [h], by omega, by omega, by go_num, HI8⟩
          case measure => simp [intOf]; omega
        · clear hdies HDIE HRow7 HR7 HJ5 HP5 HB7 HLT7 HS5 HG7
          go_wp2
          go_roundw
          case rel => exact ⟨i + 1, G ++ [h], by omega, by omega, by go_num, HI8⟩
          case measure => simp [intOf]; omega
    · obtain ⟨S, s, h1, h2, h3, h4, h5, h6⟩ := HIi.out.ex
      obtain ⟨av, kv, hv5, hkv1, hkv2, hgv⟩ := h1.form
      subst hv5
      have HK0 := hid (show EnK w (.pointer (some ⟨pb, 0, none⟩)) (.slice av G.length kv) 0 G wr from ⟨⟨S, s, h1, h2, h3, by simpa using h4⟩, HIi.out.b⟩)
      have hle : i = l.length ∨ (i < l.length ∧ 60 ≤ i) := by omega
      obtain ⟨N, hN⟩ : ∃ N, N = G.length := ⟨_, rfl⟩
      have hN60 : N ≤ 60 := by have := HIi.out.len; omega
      rw [← hN] at HK0 hkv1 ⊢
      have HNG := hid hN
      clear h1 h2 h3 h4 h5 h6 hgv HIi hgo hN
      rcases hle with rfl | ⟨hi1, hi2⟩
      all_goals
        go_wp2
        go_loopw [11] (fun i11 wr => ∃ (j : Nat), j ≤ N ∧ i11 = .int .i64 j ∧ RowKit.Hid (EnK w (.pointer (some ⟨pb, 0, none⟩)) (.slice av N kv) j G wr)) (fun i11 _ => N - (intOf i11).toNat)
        case atStart => exact ⟨0, by omega, rfl, HK0⟩
        case round =>
          obtain ⟨j, hj, rfl, HKj⟩ := hrel
          clear HK0
          by_cases hjn : j < N
          · have hy : G[j]? = some (G[j]'(by have := HNG.out; omega)) := List.getElem?_eq_getElem _
            generalize G[j]'(by have := HNG.out; omega) = y at hy
            obtain ⟨S, s, h1, h2, h3, h4⟩ := HKj.out.ex
            obtain ⟨av', kv', hv5, _, _, hgv⟩ := h1.form
            rw [← HNG.out] at hv5 hgv
            cases hv5
            obtain ⟨gb, rfl, hgb1, hgb2, hgb3⟩ := hgv (by omega)
            have cy := h1.cell HNG.out hy
            have hdr : G.drop j = y :: G.drop (j + 1) := by
              rw [List.drop_eq_getElem_cons (by have := HNG.out; omega)]
              congr 1
              exact Option.some.inj ((List.getElem?_eq_getElem _).symm.trans hy)
            rw [hdr] at h4
            have hyu : U64 y := by
              obtain ⟨b, hb, e⟩ := h4.has y (by simp)
              have := h3.ok.hbd hb
              unfold U64
              omega
            have HD := hid (h3.dn hyu)
            have HWI := hid h3.ok
            have H1 := hid h1
            have H2 := hid h2
            have H4 := hid h4
            have HB := hid HKj.out.b
            clear h1 h2 h3 h4 hdr hy HKj hgv hyu
            go_wp2_with fail
            refine HD.out.mono ?_
            rintro e w8 ⟨hf, s', n, er, rfl, hdn, hR8⟩
            obtain ⟨rfl, hj8⟩ := H4.out.dn HWI.out hdn
            have HK8 := hid (show EnK w (.pointer (some ⟨pb, 0, none⟩)) (.slice (some ⟨gb, 0, none⟩) N kv) (j + 1) G w8 from ⟨⟨_, _, H1.out.fr hf, exS_gt H2.out HB.out.size, hR8, hj8⟩, HB.out.trans (hf.below HB.out.size H2.out)⟩)
            clear hf hdn hR8 hj8 H1 H2 H4 HB HD HWI cy
            go_wp2
            go_roundw
            case rel => exact ⟨j + 1, by omega, by go_num, HK8⟩
            case measure => simp [intOf]; omega
          · obtain rfl : j = N := by omega
            obtain ⟨S, s, h1, h2, h3, h4⟩ := HKj.out.ex
            rw [List.drop_of_length_le (by have := HNG.out; omega)] at h4
            have hls := h4.empty h3.ok
            obtain ⟨a, ha, htl⟩ := h3.tells
            rw [bls_nil h3.ok hls] at htl
            cases ha
            have HT := hid (told_any wr _ [] 9 htl (by omega))
            have HB := hid HKj.out.b
            clear h1 h2 h3 h4 hls htl HKj
            go_wp2_with (first
              | (go_at_call 13; refine HT.out.mono ?_; rintro e w2 ⟨hb2, v1, v2, rfl, t1, t2⟩; have H2 := hid hb2; have t3 : Told TU u64v w2 v1 [] := t1; obtain ⟨ta, tc, rfl, _⟩ := t3.ex; simp only [List.length_nil]; clear hb2 t1 t2 t3)
              | (go_at_call 10; refine (wawake _).mono ?_; rintro e w3 ⟨rfl, hb3⟩; have H3 := hid hb3; clear hb3)
              | fail)
            go_ret
            exact ⟨rfl, HB.out.trans ((H2.out.trans (H3.out.mono H2.out.size)).mono HB.out.size)⟩
end Go.Proofs.Ytmampaglemleoab
