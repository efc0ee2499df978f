/-
  FacesChecks' walk.
-/
import Derived.Test.YtpcgplcpfbgcfaaFcLl
namespace Go.Proofs.Ytpcgplcpfbgcfaa
open Go Go.ChangeShapes Go.WideShapes Go.ChangeAt Go.RowKit

theorem info30 : (Try.prog.info? 30).map (fun i => (i.zero, i.size, i.bytes)) = some (some (.agg f0), 17, 24) := by kernel_rfl
theorem wpList_appendR {P : Program} {w : World} {ops : Array Oper} {rest : List Oper} {o : Oper} {a : Act} {Q : Exit → Act → World → Prop} (hgd : o.guard = none) (s x : Operand) (t : TypeId)
    (ho : o.op = .call { callee := .builtin .append, args := #[s, x], argTypes := #[t, t] }) (v u v' : Value) (w' : World) (hs : a.eval s = v) (hx : a.eval x = u)
    (hr : (Builtin.append_ #[t, t] o.type #[v, u]).run P w = .ok v' w') (h : wpList P ops Q rest (a.put o.dst v') w') : wpList P ops Q (o :: rest) a w := by
  refine wpList_plain hgd fun K hK => ?_
  unfold Oper.wp execOp
  simp only [ho, resolve, invoke, builtin, Sem.run_bind, Sem.run_pure, Result.andThen_ok, List.map_toArray, List.map_cons, List.map_nil, hs, hx, hr]
  exact hK _ _ h
theorem appnil (W : World) (a : Addr) : (Builtin.append_ #[22, 22] 22 #[.slice (some a) 0 0, .slice none 0 0]).run Try.prog W = .ok (.slice (some a) 0 0) W := by
  kernel_rfl
theorem flat17_len {l : List Face} (h : ∀ f ∈ l, f.id.length = 16) : (l.flatMap fcl).length = l.length * 17 := by
  induction l with
  | nil => rfl
  | cons a l ih =>
    rw [List.flatMap_cons, List.length_append, fcl_len (h a (by simp)), ih (fun f hf => h f (by simp [hf])), List.length_cons]
    omega
theorem flat17_one {l : List Face} : ∀ u ∈ l.flatMap fcl, u.oneCell' = true := fun u hu => by
  obtain ⟨f, _, hv⟩ := List.mem_flatMap.1 hu
  simp [fcl, u8l] at hv
  rcases hv with ⟨n, _, rfl⟩ | rfl <;> rfl
theorem FRow.of_owns {W : World} {B n c : Nat} {a : Option Addr} {l : List Face} (h : W.ownsRow B 30 17 (.slice a n c) n (l.flatMap fcl)) (hn : n = l.length) (hl : ∀ f ∈ l, f.id.length = 16) (hok : ∀ f ∈ l, I64 f.base) : FRow W W.heap.size a l := by
  rcases h.2 with ⟨q1, q2⟩ | ⟨g, cap, cur, q1, _, hg, _, _, _, ht⟩
  · have : l = [] := List.eq_nil_of_length_eq_zero (by omega)
    subst this
    exact ⟨fun h => by simp at h, (fun b o _ i f hf => by cases hf), hl, hok⟩
  · cases q1
    refine FRow.of_block hg hl hok (fun i v hv => ?_)
    have hlt : i < n * 17 := by
      have := (List.getElem?_eq_some_iff.1 hv).1
      rw [flat17_len hl] at this; omega
    rw [← ht, List.getElem?_take, if_pos hlt] at hv
    simpa using hv
/-- The cells of a row that came in, one behind the other. -/
theorem FRow.flat {w : World} {B b o : Nat} {l : List Face} (h : FRow w B (Option.some ⟨b, o, none⟩) l) : ∀ j v, (l.flatMap fcl)[j]? = Option.some v → w.cell? ((⟨b, o, none⟩ : Addr).add j) = Option.some v := fun j v hv => by
  have hj : j < l.length * 17 := by rw [← flat17_len h.len]; exact (List.getElem?_eq_some_iff.1 hv).1
  have hq : j / 17 < l.length := by omega
  have hx : l[j / 17]? = Option.some l[j / 17] := List.getElem?_eq_getElem hq
  generalize l[j / 17] = f at hx
  have hf := h.len f (List.mem_of_getElem? hx)
  have hr : j % 17 < (fcl f).length := by rw [fcl_len hf]; omega
  have h1 := flat_at17 l (j / 17) (j % 17) f _ h.len hx (List.getElem?_eq_getElem hr)
  have e : j / 17 * 17 + j % 17 = j := by omega
  rw [e, hv] at h1
  cases h1
  have h2 := h.face hx (j % 17) _ (List.getElem?_eq_getElem hr)
  have e2 : o + j / 17 * 17 + j % 17 = o + j := by omega
  rw [e2] at h2
  cases j with
  | zero => simpa [Addr.add] using h2
  | succ j => simpa [Addr.add] using h2
/-- What 'append([]api.Face{}, l...)' gives. -/
theorem app_any (w : World) (ad : Option Addr) (N cap : Nat) (l : List Face) (hl : FRow w w.heap.size ad l) (hN : N = l.length) (hn : N ≤ 60) (hc : ad = none → cap = 0) :
    ∃ a' c' w', (Builtin.append_ #[22, 22] 22 #[.slice (some ⟨w.heap.size, 0, none⟩) 0 0, .slice ad N cap]).run Try.prog (w.alloc (.cells #[] 30)) = .ok (.slice a' N c') w' ∧
      w'.ownsRow w.heap.size 30 17 (.slice a' N c') N (l.flatMap fcl) ∧ Below w.heap.size w w' := by
  have hown : (w.alloc (.cells #[] 30)).ownsRow w.heap.size 30 17 (.slice (some ⟨w.heap.size, 0, none⟩) 0 0) 0 [] :=
    World.ownsRow_made w #[] 0 (Nat.le_refl _) (Nat.zero_le _) rfl
  have hB : Below w.heap.size w (w.alloc (.cells #[] 30)) := (Below.refl _ _).alloc (Nat.le_refl _) _
  by_cases h0 : l.length = 0
  · have h0' : l = [] := List.eq_nil_of_length_eq_zero h0
    subst h0'
    obtain rfl : N = 0 := hN
    cases ad with
    | none =>
      obtain rfl := hc rfl
      exact ⟨_, _, _, appnil _ _, hown, hB⟩
    | some a =>
      obtain ⟨i0, hi, hz0, hz1, hz2⟩ := info_parts info30
      obtain ⟨v', w', hr, h1, h2, _, _⟩ := run_append_own_at (P := Try.prog) (w.alloc (.cells #[] 30)) w.heap.size 22 22 30 i0 _ 17 24 Try.underlying22 hi hz0 hz1 hz2 rfl (by decide) _ 0 [] hown a 0 cap [] rfl (fun j u hu => by simp at hu) (fun u hu => by cases hu) (by unfold maxLen; omega) (by omega) (by simp)
      obtain ⟨a', c', rfl⟩ := own_form h1
      refine ⟨a', c', w', hr, h1, ?_⟩
      exact ((Fr.of_below hB).grown (fp := fun j => w.heap.size ≤ j) h2 (fun k hk hlt => by cases hk; exact absurd hlt (Nat.lt_irrefl _))).below (Nat.le_refl _) (fun k hk => hk)
  · obtain ⟨b, o, rfl, hb⟩ := hl.some (by omega)
    obtain ⟨i0, hi, hz0, hz1, hz2⟩ := info_parts info30
    have hl' : FRow (w.alloc (.cells #[] 30)) w.heap.size (some ⟨b, o, none⟩) l := hl.below hB
    obtain ⟨v', w', hr, h1, h2, _, _⟩ := run_append_own_at (P := Try.prog) (w.alloc (.cells #[] 30)) w.heap.size 22 22 30 i0 _ 17 24 Try.underlying22 hi hz0 hz1 hz2 rfl (by decide) _ 0 [] hown ⟨b, o, none⟩ N cap (l.flatMap fcl) (by rw [flat17_len hl.len, hN]) (fun j u hu => hl'.flat j u hu) flat17_one (by unfold maxLen; omega) (by omega) (by simp)
    have h1' : w'.ownsRow w.heap.size 30 17 v' N (l.flatMap fcl) := by simpa using h1
    obtain ⟨a', c', rfl⟩ := own_form h1'
    refine ⟨a', c', w', hr, h1', ?_⟩
    exact ((Fr.of_below hB).grown (fp := fun j => w.heap.size ≤ j) h2 (fun k hk hlt => by cases hk; exact absurd hlt (Nat.lt_irrefl _))).below (Nat.le_refl _) (fun k hk => hk)
set_option maxHeartbeats 2000000 in
set_option maxRecDepth 100000 in
theorem Checks_any (w : World) (ad : Option Addr) (cap N : Nat) (l : List Face) (hF : FRow w w.heap.size ad l) (hN : N = l.length) (hc : ad = none → cap = 0) :
    Calls Try.prog 3 #[.slice ad N cap] w fun e w' => e = .returned (.bool true) ∧ Below w.heap.size w w' := by
  have HN := hid hN
  by_cases hgr : 60 < N
  · have hd : decide ((60 : Int) < N) = true := by simp; omega
    clear hgr hF hN hc
    go_enter Try.func3, Try.ntmps3
    go_wp2_with (first | (go_at_call 9; refine (great_any _ _ _ _).mono ?_; rintro e w' ⟨rfl, rfl⟩) | fail)
    refine (awake_any _).mono ?_
    rintro e w3 ⟨rfl, hb3⟩
    have HB3 := hid hb3
    clear hb3
    go_wp2
    go_ret
    exact ⟨rfl, HB3.out⟩
  · have hd : decide ((60 : Int) < N) = false := by simp; omega
    have hn60 : N ≤ 60 := by omega
    obtain ⟨a1, c1, w1, hr, hown1, hb1⟩ := app_any w ad N cap l hF hN hn60 hc
    have hF1 := FRow.of_owns hown1 hN hF.len hF.ok
    have HR := hid hr
    have HI := hid hF1
    have HFw := hid hF
    have HF := hid (hF.on hb1)
    have HB1 := hid hb1
    have HCK := hid (Check_any w1 a1 N c1 l hF1 hN (by omega) (own_cap hown1) (own_capmax hown1))
    clear hgr hF hN hc hr hown1 hF1 hb1
    go_enter Try.func3, Try.ntmps3
    go_wp2_with (first | (go_at_call 9; refine (great_any _ _ _ _).mono ?_; rintro e w' ⟨rfl, rfl⟩) | ((with_reducible refine at_op ⟨some 11, _, _, _, _, _⟩ ?_); refine wpList_appendR rfl (.tmp 9) (.tmp 10) 22 rfl _ _ _ w1 rfl rfl HR.out ?_))
    refine HCK.out.mono ?_
    rintro e w2 ⟨rfl, hb2⟩
    have HI2 := hid (HI.out.on hb2)
    have HF2 := hid (HF.out.on hb2)
    have HB2 := hid (HB1.out.trans (hb2.mono HB1.out.size))
    clear hb2 HI HF HB1 HCK HR
    go_wp2
    go_loopw [5] (fun p wr => ∃ q : Nat, q ≤ N ∧ p = .int .i64 q ∧ RowKit.Hid (Fr (fun _ => False) w2 wr)) (fun p _ => N - (intOf p).toNat)
    case atStart => exact ⟨0, by omega, rfl, hid (Fr.refl _ _)⟩
    case round =>
      obtain ⟨q, hq, rfl, HX⟩ := hrel
      by_cases hql : q < N
      · have hx : l[q]? = some (l[q]'(by have := HN.out; omega)) := List.getElem?_eq_getElem (by have := HN.out; omega)
        generalize (l[q]'(by have := HN.out; omega)) = f at hx
        have hfi := HFw.out.len f (List.mem_of_getElem? hx)
        obtain ⟨b, o, rfl, hb⟩ := HF2.out.some (by have := HN.out; omega)
        obtain ⟨b', o', rfl, hb'⟩ := HI2.out.some (by have := HN.out; omega)
        have HFI := hid hfi
        have HS1 := hid (show ∀ W, Fr (fun _ => False) w2 W → AtL W b (o + q * 17) (fcl f) from fun W h => (HF2.out.face hx).fr h)
        have HS2 := hid (show ∀ W, Fr (fun _ => False) w2 W → AtL W b' (o' + q * 17) (fcl f) from fun W h => (HI2.out.face hx).fr h)
        have he := fun W => eq30 f hfi W
        have hgd := guard30
        clear hx hfi hb hb'
        go_wp2
        refine D.wp_region_mix [0, 0, 0, 1, 0, 0, 0, 1, 0] (fun W => Fr (fun _ => False) w2 W) (by kernel_rfl) (by kernel_rfl) HX.out.drew ?_
        repeat (first
          | (refine C.wpMix_read _ rfl rfl (fun W hS => load_face rfl rfl (HS2.out W hS) HFI.out) ?_; simp only [Act.put, List.setIfInBounds_toArray, List.set_cons_zero, List.set_cons_succ])
          | (refine C.wpMix_read _ rfl rfl (fun W hS => load_face rfl rfl (HS1.out W hS) HFI.out) ?_; simp only [Act.put, List.setIfInBounds_toArray, List.set_cons_zero, List.set_cons_succ])
          | (refine' C.wpMix_value _ rfl rfl _ _; rotate_left; (solve | (intro W; go_simp) | (intro W; go_simp; with_reducible rfl)); simp only [Act.put, List.setIfInBounds_toArray, List.set_cons_zero, List.set_cons_succ]))
        refine C.wpMix_end ?_
        go_wp2
        go_roundw
        case rel => exact ⟨q + 1, by omega, by go_num, hid HX.out.drew⟩
        case measure => simp [intOf]; omega
      · obtain rfl : q = N := by omega
        have HBr := hid (show Below w.heap.size w wr from HB2.out.trans (HX.out.below HB2.out.size (fun _ h => h.elim)))
        have HFr := hid (HFw.out.on HBr.out)
        go_wp2_with fail
        refine (RCheck_any wr ad q cap l HFr.out HN.out (by omega)).mono ?_
        rintro e w4 ⟨rfl, hb4⟩
        have HB4 := hid (HBr.out.trans (hb4.mono HBr.out.size))
        clear hb4
        go_wp2_with fail
        refine (awake_any _).mono ?_
        rintro e w5 ⟨rfl, hb5⟩
        have HB5 := hid (HB4.out.trans (hb5.mono HB4.out.size))
        clear hb5
        go_wp2
        go_ret
        exact ⟨rfl, HB5.out⟩
end Go.Proofs.Ytpcgplcpfbgcfaa
