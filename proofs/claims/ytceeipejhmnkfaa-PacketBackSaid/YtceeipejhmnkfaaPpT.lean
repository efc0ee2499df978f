/- PpM PpN PpO PpQ PpR PpS PpT in one -/
import Derived.Test.YtceeipejhmnkfaaRdI
import Derived.Test.YtceeipejhmnkfaaPkC
import Derived.Test.YtceeipejhmnkfaaPpI
import Derived.Test.YtceeipejhmnkfaaObR
import Derived.Test.YtceeipejhmnkfaaMixD
import Derived.Test.YtceeipejhmnkfaaPkL
import Derived.Test.YtceeipejhmnkfaaObD
namespace Go.Proofs.Ytceeipejhmnkfaa
open Go Go.ChangeShapes Go.WideShapes Go.ChangeAt Go.RowKit

def rdK (b : List Int) (a k : Nat) (f : Int → Nat → Option Pk) : Option Pk := if (rd b a k).2.2 = 0 then f (rd b a k).1 (rd b a k).2.1 else none
def rdBK (b : List Int) (a m : Nat) (f : List Int → Nat → Option Pk) : Option Pk := if a + m ≤ b.length then f ((b.drop a).take m) (a + m) else none
def endK (b : List Int) (a : Nat) (p : Pk) : Option Pk := if a = b.length then some p else none
def read1 (b : List Int) (fr to sq : Int) (a : Nat) : Option Pk :=
  rdK b a 8 fun ca a => rdBK b a 16 fun ip a => rdK b a 1 fun me a => rdK b a 8 fun n a => rdK b a 8 fun l a =>
    if l = 0 then endK b a ⟨1, fr, to, sq, ca, ip, me, sg n, 0, []⟩
    else if l = 1 then rdBK b a 64 fun fs a => if (decO fs).2 = 0 then endK b a ⟨1, fr, to, sq, ca, ip, me, sg n, 0, [(decO fs).1]⟩ else none
    else none
def read2 (b : List Int) (fr to sq : Int) (a : Nat) : Option Pk :=
  rdK b a 8 fun ca a => rdK b a 1 fun co a => rdK b a 8 fun n a => endK b a ⟨2, fr, to, sq, ca, g0, 0, sg n, co, []⟩
def read34 (b : List Int) (ki fr to sq : Int) (a : Nat) : Option Pk :=
  rdBK b a 16 fun ip a => rdK b a 8 fun n a => endK b a ⟨ki, fr, to, sq, 0, ip, 0, sg n, 0, []⟩
def readT (b : List Int) (ki fr to sq : Int) (a : Nat) : Option Pk :=
  if ki = 1 then read1 b fr to sq a else if ki = 2 then read2 b fr to sq a else if ki = 3 ∨ ki = 4 then read34 b ki fr to sq a else endK b a ⟨ki, fr, to, sq, 0, g0, 0, 0, 0, []⟩
def readP (b : List Int) : Option Pk :=
  rdK b 0 1 fun ki a => rdK b a 1 fun fr a => rdK b a 1 fun to a => rdK b a 8 fun sq a => readT b ki fr to sq a

theorem rdK_inv {b : List Int} {a k : Nat} {f : Int → Nat → Option Pk} {p : Pk} (hb : Byt b) (ha : a ≤ b.length) (h : rdK b a k f = some p) : ∃ n a', f n a' = some p ∧ lay (b.take a) n k = b.take a' ∧ a' ≤ b.length ∧ 0 ≤ n ∧ n < 256 ^ k := by
  unfold rdK at h
  split at h
  · rename_i he
    obtain ⟨sz, hs, _, h1, _, h2, h3, h4⟩ := rd_inv hb ha (n := (rd b a k).1) (k := (rd b a k).2.1) (s := k) (by rw [← he])
    have : sz = k := by omega
    subst this
    exact ⟨_, _, h, h1, h2, h3, h4⟩
  · cases h
theorem rdBK_inv {b : List Int} {a m : Nat} {f : List Int → Nat → Option Pk} {p : Pk} (h : rdBK b a m f = some p) : ∃ xs, f xs (a + m) = some p ∧ b.take a ++ xs = b.take (a + m) ∧ a + m ≤ b.length ∧ xs.length = m ∧ xs = (b.drop a).take m := by
  unfold rdBK at h
  split at h
  · exact ⟨_, h, by rw [List.take_add], by assumption, by simp; omega, rfl⟩
  · cases h
theorem endK_inv {b : List Int} {a : Nat} {p q : Pk} (h : endK b a p = some q) : p = q ∧ a = b.length := by
  unfold endK at h
  split at h
  · exact ⟨by cases h; rfl, by assumption⟩
  · cases h
theorem rdK_lay {b : List Int} {xs : List Int} {n : Int} {k : Nat} {f : Int → Nat → Option Pk} (hk : Siz k) (h0 : 0 ≤ n) (h1 : n < 256 ^ k) (h : lay xs n k <+: b) : rdK b xs.length k f = f n (lay xs n k).length := by
  obtain ⟨r, rfl⟩ := h
  unfold rdK
  rw [rd_lay hk h0 h1]
  rfl
theorem rdBK_app {b xs ys : List Int} {m : Nat} {f : List Int → Nat → Option Pk} (hm : ys.length = m) (h : xs ++ ys <+: b) : rdBK b xs.length m f = f ys (xs ++ ys).length := by
  obtain ⟨r, rfl⟩ := h
  unfold rdBK
  rw [if_pos (by simp; omega), List.append_assoc, List.drop_left, List.take_left' hm, List.length_append, hm]
theorem lay_pre (xs : List Int) (n : Int) (k : Nat) : xs <+: lay xs n k := by
  unfold lay
  rw [List.append_assoc]
  exact List.prefix_append _ _
theorem sgn_ok {n : Int} (h0 : 0 ≤ n) (h1 : n < 18446744073709551616) : un (sg n) = n := by
  unfold sg un wrap64
  rw [IntKind.wrap_u64]
  omega
theorem decO_inv {fs : List Int} (h : (decO fs).2 = 0) : fs.length = 64 ∧ frmO (decO fs).1 = fs := by
  unfold decO at h ⊢
  split
  · rename_i h1; rw [if_pos h1] at h; cases h
  · rename_i h1
    rw [if_neg h1] at h
    split
    · rename_i h2; rw [if_pos h2] at h; cases h
    · rename_i h2
      rw [if_neg h2] at h
      split
      · rename_i h3; exact ⟨by omega, h3.2⟩
      · rename_i h3; rw [if_neg h3] at h; cases h
theorem byte_i64 {n : Int} (h0 : 0 ≤ n) (h1 : n < 256 ^ 1) : I64 n := ⟨by omega, by omega⟩
theorem p8 : (256 : Int) ^ 8 = 18446744073709551616 := by decide
theorem U64.mk8 {n : Int} (h0 : 0 ≤ n) (h1 : n < 256 ^ 8) : U64 n := ⟨h0, by rw [p8] at h1; omega⟩
theorem i64_0 : I64 0 := ⟨by decide, by decide⟩
theorem z64 : (0 : Int) ≤ 18446744073709551615 := by decide
/-- What was read has that form. -/
theorem read_inv {b : List Int} {p : Pk} (hb : Byt b) (h : readP b = some p) : PkOk p ∧ formP p = b := by
  unfold readP at h
  obtain ⟨ki, a1, hx1, e1, l1, k0, k1⟩ := rdK_inv hb (Nat.zero_le _) h
  clear h
  obtain ⟨fr, a2, hx2, e2, l2, f0, f1⟩ := rdK_inv hb l1 hx1
  clear hx1
  obtain ⟨to, a3, hx3, e3, l3, t0, t1⟩ := rdK_inv hb l2 hx2
  clear hx2
  obtain ⟨sq, a4, h, e4, l4, s0, s1⟩ := rdK_inv hb l3 hx3
  clear hx3
  rw [List.take_zero, lay_one _ k0 (by omega)] at e1
  rw [← e1, lay_one _ f0 (by omega)] at e2
  rw [← e2, lay_one _ t0 (by omega)] at e3
  have hh : lay [ki, fr, to] sq 8 = b.take a4 := by rw [← e4, ← e3]; rfl
  have hsq : U64 sq := ⟨s0, by rw [p8] at s1; omega⟩
  clear e1 e2 e3 e4
  unfold readT at h
  by_cases h1 : ki = 1
  · rw [if_pos h1] at h
    subst h1
    unfold read1 at h
    obtain ⟨ca, a5, h, e5, l5, c0, c1⟩ := rdK_inv hb l4 h
    obtain ⟨ip, h, e6, l6, m6, x6⟩ := rdBK_inv h
    obtain ⟨me, a7, h, e7, l7, m0, m1⟩ := rdK_inv hb l6 h
    obtain ⟨n, a8, h, e8, l8, n0, n1⟩ := rdK_inv hb l7 h
    obtain ⟨l, a9, h, e9, l9, q0, q1⟩ := rdK_inv hb l8 h
    have hip : IsG ip := IsG.of_byt (by rw [x6]; exact hb.part a5 16) m6
    have hF : lay (lay (lay (lay [1, fr, to] sq 8) ca 8 ++ ip ++ [me]) n 8) l 8 = b.take a9 := by
      rw [← e9, ← e8, ← e7, lay_one _ m0 (by omega), ← e6, ← e5, hh]
    have hn8 : un (sg n) = n := sgn_ok n0 (by rw [p8] at n1; omega)
    split at h
    · rename_i hl0
      obtain ⟨rfl, ha⟩ := endK_inv h
      refine ⟨⟨byte_i64 k0 k1, byte_i64 f0 f1, byte_i64 t0 t1, hsq, U64.mk8 c0 c1, hip, byte_i64 m0 m1, sg_i64 n, i64_0, fun x hx => by cases hx⟩, ?_⟩
      rw [formP, if_pos rfl]
      simp only [hdP, hn8, refsP, List.length_nil, List.append_nil]
      rw [show ((0 : Nat) : Int) = l by omega, hF, ha, List.take_length]
    · split at h
      · rename_i hl1
        obtain ⟨fs, h, e10, l10, m10, x10⟩ := rdBK_inv h
        split at h
        · rename_i hd
          obtain ⟨hd1, hd2⟩ := decO_inv hd
          obtain ⟨rfl, ha⟩ := endK_inv h
          have hbf : Byt fs := by rw [x10]; exact hb.part a9 64
          refine ⟨⟨byte_i64 k0 k1, byte_i64 f0 f1, byte_i64 t0 t1, hsq, U64.mk8 c0 c1, hip, byte_i64 m0 m1, sg_i64 n, i64_0, fun x hx => by
            rw [List.mem_singleton] at hx
            subst hx
            exact decO_ok hbf⟩, ?_⟩
          rw [formP, if_pos rfl]
          simp only [hdP, hn8, refsP, List.length_singleton]
          rw [show ((1 : Nat) : Int) = l by omega, hF, hd2, e10, ha, List.take_length]
        · cases h
      · cases h
  by_cases h2 : ki = 2
  · rw [if_neg h1, if_pos h2] at h
    subst h2
    unfold read2 at h
    obtain ⟨ca, a5, h, e5, l5, c0, c1⟩ := rdK_inv hb l4 h
    obtain ⟨co, a6, h, e6, l6, m0, m1⟩ := rdK_inv hb l5 h
    obtain ⟨n, a7, h, e7, l7, n0, n1⟩ := rdK_inv hb l6 h
    have hn8 : un (sg n) = n := sgn_ok n0 (by rw [p8] at n1; omega)
    obtain ⟨rfl, ha⟩ := endK_inv h
    refine ⟨⟨byte_i64 k0 k1, byte_i64 f0 f1, byte_i64 t0 t1, hsq, U64.mk8 c0 c1, pkZ_ok.ip, i64_0, sg_i64 n, byte_i64 m0 m1, fun x hx => by cases hx⟩, ?_⟩
    rw [formP, if_neg (show ¬ (2 : Int) = 1 by decide), if_pos rfl]
    simp only [hdP, hn8]
    rw [hh, e5, ← lay_one _ m0 (by omega), e6, e7, ha, List.take_length]
  by_cases h3 : ki = 3 ∨ ki = 4
  · rw [if_neg h1, if_neg h2, if_pos h3] at h
    unfold read34 at h
    obtain ⟨ip, h, e6, l6, m6, x6⟩ := rdBK_inv h
    obtain ⟨n, a7, h, e7, l7, n0, n1⟩ := rdK_inv hb l6 h
    have hip : IsG ip := IsG.of_byt (by rw [x6]; exact hb.part a4 16) m6
    have hn8 : un (sg n) = n := sgn_ok n0 (by rw [p8] at n1; omega)
    obtain ⟨rfl, ha⟩ := endK_inv h
    refine ⟨⟨byte_i64 k0 k1, byte_i64 f0 f1, byte_i64 t0 t1, hsq, ⟨Int.le_refl 0, z64⟩, hip, i64_0, sg_i64 n, i64_0, fun x hx => by cases hx⟩, ?_⟩
    rw [formP, if_neg h1, if_neg h2, if_pos h3]
    simp only [hdP, hn8]
    rw [hh, e6, e7, ha, List.take_length]
  · rw [if_neg h1, if_neg h2, if_neg h3] at h
    obtain ⟨rfl, ha⟩ := endK_inv h
    refine ⟨⟨byte_i64 k0 k1, byte_i64 f0 f1, byte_i64 t0 t1, hsq, ⟨Int.le_refl 0, z64⟩, pkZ_ok.ip, i64_0, i64_0, i64_0, fun x hx => by cases hx⟩, ?_⟩
    rw [formP, if_neg h1, if_neg h2, if_neg h3]
    simp only [hdP]
    rw [hh, ha, List.take_length]
theorem rdK_go {b xs : List Int} {n : Int} {k a : Nat} {f : Int → Nat → Option Pk} {r : Option Pk} (hk : Siz k) (h0 : 0 ≤ n) (h1 : n < 256 ^ k) (ha : a = xs.length) (h : lay xs n k <+: b) (hr : f n (lay xs n k).length = r) : rdK b a k f = r := by
  rw [ha, rdK_lay hk h0 h1 h, hr]
theorem rdBK_go {b xs ys : List Int} {m a : Nat} {f : List Int → Nat → Option Pk} {r : Option Pk} (hm : ys.length = m) (ha : a = xs.length) (h : xs ++ ys <+: b) (hr : f ys (xs ++ ys).length = r) : rdBK b a m f = r := by
  rw [ha, rdBK_app hm h, hr]
theorem s8 : Siz 8 := .inr (.inr (.inr rfl))
theorem s1 : Siz 1 := .inl rfl
theorem lt8 {z : Int} (h : U64 z) : z < 256 ^ 8 := by rw [p8]; have := h.2; omega
theorem sg_un' {n : Int} (h : I64 n) : sg (un n) = n := sg_un h
set_option maxHeartbeats 1000000 in
/-- A right packet's form is read as it. -/
theorem read_form {p : Pk} (hp : PkOk p) (hr : rightP p = true) : readP (formP p) = some p := by
  obtain ⟨⟨f0, f1⟩, ⟨t0, t1⟩, ⟨k0, k1⟩⟩ := rightP_hd hr
  have hu := un_u64 p.n
  have hsn := sg_un hp.n
  have h16 := hp.ip.len
  have pre : hdP p <+: formP p := by
    unfold formP
    split
    · exact ((((lay_pre _ _ _).trans ((List.prefix_append _ _).trans (List.prefix_append _ _))).trans (lay_pre _ _ _)).trans (lay_pre _ _ _)).trans (List.prefix_append _ _)
    · split
      · exact ((lay_pre _ _ _).trans (List.prefix_append _ _)).trans (lay_pre _ _ _)
      · split
        · exact (List.prefix_append _ _).trans (lay_pre _ _ _)
        · exact List.prefix_refl _
  have q3 : [p.ki, p.fr, p.to] <+: formP p := (lay_pre _ _ _).trans pre
  have q2 : [p.ki, p.fr] <+: formP p := (List.prefix_append [p.ki, p.fr] [p.to]).trans q3
  have q1 : [p.ki] <+: formP p := (List.prefix_append [p.ki] [p.fr]).trans q2
  have e1 : lay [] p.ki 1 = [p.ki] := by rw [lay_one _ (by omega) (by omega)]; rfl
  have e2 : lay [p.ki] p.fr 1 = [p.ki, p.fr] := by rw [lay_one _ f0 (by omega)]; rfl
  have e3 : lay [p.ki, p.fr] p.to 1 = [p.ki, p.fr, p.to] := by rw [lay_one _ t0 (by omega)]; rfl
  have goal : ∀ b, b = formP p → readP b = some p := by
    intro b hb
    rw [← hb] at pre q1 q2 q3
    unfold readP
    refine rdK_go (n := p.ki) (xs := []) s1 (by omega) (by omega) rfl (by rw [e1]; exact q1) ?_
    refine rdK_go (n := p.fr) (xs := [p.ki]) s1 f0 (by omega) (by rw [e1]) (by rw [e2]; exact q2) ?_
    refine rdK_go (n := p.to) (xs := [p.ki, p.fr]) s1 t0 (by omega) (by rw [e2]) (by rw [e3]; exact q3) ?_
    refine rdK_go (n := p.sq) (xs := [p.ki, p.fr, p.to]) s8 hp.sq.1 (lt8 hp.sq) (by rw [e3]) pre ?_
    change readT b p.ki p.fr p.to p.sq (hdP p).length = some p
    unfold readT
    by_cases h1 : p.ki = 1
    · obtain ⟨hl, ⟨m0, m1⟩, hco, hall⟩ := rightP_1 hr h1
      have hF : b = lay (lay (lay (hdP p) p.ca 8 ++ p.ip ++ [p.me]) (un p.n) 8) p.rs.length 8 ++ refsP p := by rw [hb, formP, if_pos h1]
      have z6 : lay (lay (lay (hdP p) p.ca 8 ++ p.ip ++ [p.me]) (un p.n) 8) p.rs.length 8 <+: b := by rw [hF]; exact List.prefix_append _ _
      have z5 := (lay_pre _ _ _).trans z6
      have z4 := (lay_pre _ _ _).trans z5
      have z3 := (List.prefix_append _ _).trans z4
      have z2 := (List.prefix_append _ _).trans z3
      have em : lay (lay (hdP p) p.ca 8 ++ p.ip) p.me 1 = lay (hdP p) p.ca 8 ++ p.ip ++ [p.me] := lay_one _ m0 (by omega)
      rw [if_pos h1]
      unfold read1
      refine rdK_go (n := p.ca) s8 hp.ca.1 (lt8 hp.ca) rfl z2 ?_
      refine rdBK_go h16 rfl z3 ?_
      refine rdK_go (n := p.me) s1 m0 (by omega) rfl (by rw [em]; exact z4) ?_
      refine rdK_go (n := un p.n) s8 hu.1 (lt8 hu) (by rw [em]) z5 ?_
      refine rdK_go (n := (p.rs.length : Int)) s8 (by omega) (by rw [p8]; omega) rfl z6 ?_
      rw [hsn]
      have hrs : p.rs = [] ∨ ∃ x, p.rs = [x] := by
        match hq : p.rs with
        | [] => exact .inl rfl
        | [x] => exact .inr ⟨x, rfl⟩
        | x :: y :: t => rw [hq] at hl; simp at hl
      have fin : ∀ rs, p.rs = rs → (⟨1, p.fr, p.to, p.sq, p.ca, p.ip, p.me, p.n, 0, rs⟩ : Pk) = p := fun rs h => by
        cases p; simp only at h1 hco h; subst h1 hco h; rfl
      rcases hrs with hq | ⟨x, hq⟩
      · rw [if_pos (by rw [hq]; rfl)]
        unfold endK
        rw [if_pos (by rw [hF]; simp [refsP, hq]), fin [] hq]
      · have hx : OrfOk x := hp.rs x (by rw [hq]; simp)
        have hrx : rightO x = true := by rw [hq] at hall; simpa using hall
        have hz : refsP p = frmO x := by simp [refsP, hq]
        rw [if_neg (by rw [hq]; simp), if_pos (by rw [hq]; rfl)]
        refine rdBK_go (xs := lay (lay (lay (hdP p) p.ca 8 ++ p.ip ++ [p.me]) (un p.n) 8) p.rs.length 8) (ys := frmO x) (frmO_len hx) rfl (by rw [hF, hz]; exact List.prefix_refl _) ?_
        rw [decO_frm hx hrx, if_pos rfl]
        unfold endK
        rw [if_pos (by rw [hF, hz]), fin [x] hq]
    rw [if_neg h1]
    by_cases h2 : p.ki = 2
    · obtain ⟨hip, hme, hrs, o0, o1⟩ := rightP_2 hr h2
      have hF : b = lay (lay (hdP p) p.ca 8 ++ [p.co]) (un p.n) 8 := by rw [hb, formP, if_neg h1, if_pos h2]
      have z4 : lay (lay (hdP p) p.ca 8 ++ [p.co]) (un p.n) 8 <+: b := by rw [hF]; exact List.prefix_refl _
      have z3 := (lay_pre _ _ _).trans z4
      have z2 := (List.prefix_append _ _).trans z3
      have em : lay (lay (hdP p) p.ca 8) p.co 1 = lay (hdP p) p.ca 8 ++ [p.co] := lay_one _ o0 (by omega)
      rw [if_pos h2]
      unfold read2
      refine rdK_go (n := p.ca) s8 hp.ca.1 (lt8 hp.ca) rfl z2 ?_
      refine rdK_go (n := p.co) s1 o0 (by omega) rfl (by rw [em]; exact z3) ?_
      refine rdK_go (n := un p.n) s8 hu.1 (lt8 hu) (by rw [em]) z4 ?_
      rw [hsn]
      unfold endK
      rw [if_pos (by rw [hF])]
      cases p; simp only at h2 hip hme hrs; subst h2 hip hme hrs; rfl
    rw [if_neg h2]
    by_cases h3 : p.ki = 3 ∨ p.ki = 4
    · obtain ⟨hca, hme, hco, hrs, _, _⟩ := rightP_34 hr h3
      have hF : b = lay (hdP p ++ p.ip) (un p.n) 8 := by rw [hb, formP, if_neg h1, if_neg h2, if_pos h3]
      have z4 : lay (hdP p ++ p.ip) (un p.n) 8 <+: b := by rw [hF]; exact List.prefix_refl _
      have z3 := (lay_pre _ _ _).trans z4
      rw [if_pos h3]
      unfold read34
      refine rdBK_go h16 rfl z3 ?_
      refine rdK_go (n := un p.n) s8 hu.1 (lt8 hu) rfl z4 ?_
      rw [hsn]
      unfold endK
      rw [if_pos (by rw [hF])]
      cases p; simp only at hca hme hco hrs; subst hca hme hco hrs; rfl
    · rw [if_neg h3]
      obtain ⟨hca, hip, hme, hco, hn, hrs⟩ := rightP_5 hr (by omega)
      have hF : b = hdP p := by rw [hb, formP, if_neg h1, if_neg h2, if_neg h3]
      unfold endK
      rw [if_pos (by rw [hF])]
      cases p; simp only at hca hip hme hco hn hrs; subst hca hip hme hco hn hrs; rfl
  exact goal _ rfl
/-- What the program's Decode answers is the twin's answer. -/
theorem dec_read {b : List Int} (hb : Byt b) : decP b = match readP b with | some p => if rightP p = true then (p, true) else (pkZ, false) | none => (pkZ, false) := by
  have hfalse : (decP b).2 = false → decP b = (pkZ, false) := fun h => by
    unfold decP at h ⊢
    split
    · rfl
    · rename_i h1
      rw [if_neg h1] at h
      split
      · rename_i h2; rw [if_pos h2] at h; cases h
      · rfl
  have htrue : (decP b).2 = true → ∃ p, PkOk p ∧ rightP p = true ∧ formP p = b := fun h => by
    have hq : decP b = ((decP b).1, true) := by rw [← h]
    obtain ⟨h1, h2⟩ := dec_inv hq
    exact ⟨_, dec_ok hb, h1, h2⟩
  cases hrd : readP b with
  | some p =>
    obtain ⟨hok, hF⟩ := read_inv hb hrd
    simp only
    split
    · rename_i hr
      rw [← hF]
      exact dec_form hok hr
    · rename_i hr
      refine hfalse ?_
      cases hd : (decP b).2
      · rfl
      · obtain ⟨q, hq, hqr, hqf⟩ := htrue hd
        have := read_form hq hqr
        rw [hqf, hrd] at this
        cases this
        exact absurd hqr hr
  | none =>
    refine hfalse ?_
    cases hd : (decP b).2
    · rfl
    · obtain ⟨q, hq, hqr, hqf⟩ := htrue hd
      have := read_form hq hqr
      rw [hqf, hrd] at this
      cases this
end Go.Proofs.Ytceeipejhmnkfaa

namespace Go.Proofs.Ytceeipejhmnkfaa
open Go Go.ChangeShapes Go.WideShapes Go.ChangeAt Go.RowKit

/-- The reader at q, the result's block z, the packet at g, the boxes of their pointers at n and n + 1. -/
structure PSt (X : Option (Nat × Obj)) (w : World) (q z g n : Nat) (v : Value) (b : List Int) (p : Pk) (ad : Option Addr) (c : Nat) (a : Nat) (W : World) : Prop where
  rw_ : RdW W q v a b
  hr : W.heap[n]? = some (.cells #[.pointer (some ⟨q, 0, none⟩)] 64 (0, 0))
  hg : W.heap[n + 1]? = some (.cells #[.pointer (some ⟨g, 0, none⟩)] 82 (0, 0))
  hp : InP W g p ad c
  hz : InP W z pkZ none 0
  b : Below w.heap.size w W
  lo : w.heap.size ≤ q ∧ w.heap.size ≤ z ∧ w.heap.size ≤ g ∧ w.heap.size ≤ n
  ne : q ≠ n ∧ q ≠ n + 1 ∧ q ≠ g ∧ q ≠ z ∧ g ≠ n ∧ g ≠ n + 1 ∧ g ≠ z ∧ z ≠ n ∧ z ≠ n + 1
  own : ∀ j, v.ownBlock = some j → j ≠ n ∧ j ≠ n + 1 ∧ j ≠ g ∧ j ≠ z
  ex : ∀ k o, X = some (k, o) → W.heap[k]? = some o ∧ k ≠ q ∧ k ≠ g
section
variable {X : Option (Nat × Obj)} {w W W' : World} {q z g n : Nat} {v : Value} {b : List Int} {p : Pk} {ad : Option Addr} {c a : Nat}
theorem PSt.to {a' : Nat} (h : PSt X w q z g n v b p ad c a W) (hr : RdW W' q v a' b) (hf : Fr (fun j => j = q) W W') : PSt X w q z g n v b p ad c a' W' := by
  obtain ⟨n1, n2, n3, n4, n5, n6, n7, n8, n9⟩ := h.ne
  refine ⟨hr, ?_, ?_, h.hp.fr' hf (fun e => n3 e.symm), h.hz.fr' hf (fun e => n4 e.symm), h.b.trans (hf.below h.b.size (fun k hk => by subst hk; exact h.lo.1)), h.lo, h.ne, h.own, fun k o hk => by
    obtain ⟨e1, e2, e3⟩ := h.ex k o hk
    exact ⟨by rw [hf.block k (lt_of_heap e1) e2]; exact e1, e2, e3⟩⟩
  · rw [hf.block _ (lt_of_heap h.hr) (fun e => n1 e.symm)]; exact h.hr
  · rw [hf.block _ (lt_of_heap h.hg) (fun e => n2 e.symm)]; exact h.hg
/-- What turns the packet's block alone. -/
theorem PSt.put {p' : Pk} {ad' : Option Addr} {c' : Nat} (h : PSt X w q z g n v b p ad c a W) (hf : Fr (fun j => j = g) W W') (hp : InP W' g p' ad' c') : PSt X w q z g n v b p' ad' c' a W' := by
  obtain ⟨n1, n2, n3, n4, n5, n6, n7, n8, n9⟩ := h.ne
  refine ⟨h.rw_.fr hf (fun e => n3 e) (fun k hk => (h.own k hk).2.2.1), ?_, ?_, hp, h.hz.fr' hf (fun e => n7 e.symm), h.b.trans (hf.below h.b.size (fun k hk => by subst hk; exact h.lo.2.2.1)), h.lo, h.ne, h.own, fun k o hk => by
    obtain ⟨e1, e2, e3⟩ := h.ex k o hk
    exact ⟨by rw [hf.block k (lt_of_heap e1) e3]; exact e1, e2, e3⟩⟩
  · rw [hf.block _ (lt_of_heap h.hr) (fun e => n5 e.symm)]; exact h.hr
  · rw [hf.block _ (lt_of_heap h.hg) (fun e => n6 e.symm)]; exact h.hg
theorem PSt.set {p' : Pk} {ad' : Option Addr} {c' : Nat} (h : PSt X w q z g n v b p ad c a W) (j : Nat) (x : Value) (hs : (pkc p ad c).set j x = pkc p' ad' c') : PSt X w q z g n v b p' ad' c' a (W.setCell ⟨g, j, none⟩ x) :=
  h.put ((Fr.refl (fun k => k = g) W).setCell ⟨g, j, none⟩ x (fun _ => rfl)) (h.hp.setc j x hs)
theorem PSt.on (h : PSt X w q z g n v b p ad c a W) (hB : Below W.heap.size W W') : PSt X w q z g n v b p ad c a W' :=
  h.to (h.rw_.fr (Fr.of_below (fp := fun _ => False) hB) (fun h => h) (fun _ _ h => h)) (Fr.of_below hB)
theorem PSt.num (h : PSt X w q z g n v b p ad c a W) (hb : Byt b) (hl : b.length ≤ 140737488351232) (k : Nat) :
    Calls Try.prog 81 #[.pointer (some ⟨q, 0, none⟩), .int .i64 k] W fun e W' => e = .returned (.tuple #[.int .u64 (rd b a k).1, .int .i64 (rd b a k).2.2]) ∧ PSt X w q z g n v b p ad c (rd b a k).2.1 W' :=
  (RdNum_any W q a v b k h.rw_ hb hl).mono fun _ _ hp => ⟨hp.1, h.to hp.2.1 hp.2.2⟩
theorem InP.cellj {W : World} {g : Nat} {p : Pk} {ad : Option Addr} {c : Nat} (h : InP W g p ad c) (h16 : p.ip.length = 16) (j : Nat) (hj : j < 25) : ∃ x, W.cell? ⟨g, j, none⟩ = some x :=
  ⟨_, (h.cell j).trans (List.getElem?_eq_getElem (by rw [pkc_len h16]; exact hj))⟩
theorem InP.fz {W : World} {g : Nat} {p : Pk} {ad : Option Addr} {c : Nat} (h : InP W g p ad c) (j : Nat) : W.frozen? ⟨g, j, none⟩ = false := frozen_of_row W g j _ 28 h
set_option maxRecDepth 100000 in
theorem rnInt (h : PSt X w q z g n v b p ad c a W) (hb : Byt b) (hl : b.length ≤ 140737488351232) (k j : Nat) (h16 : p.ip.length = 16) (hj : j < 25) (up : Int → Pk) (hs : ∀ x, (pkc p ad c).set j (.int .i64 x) = pkc (up x) ad c) :
    Calls Try.prog 62 #[.pointer (some ⟨q, 0, none⟩), .int .i64 k, .pointer (some ⟨g, j, none⟩)] W fun e W' => e = .returned (.int .i64 (rd b a k).2.2) ∧ PSt X w q z g n v b (up (sg (rd b a k).1)) ad c (rd b a k).2.1 W' := by
  have HN := hid (h.num hb hl k)
  have HS := hid hs
  have Hj := hid hj
  generalize rd b a k = r at *
  obtain ⟨m, a', er⟩ := r
  clear h hb hl hs hj
  go_enter Try.func62, Try.ntmps62
  go_wp2_with fail
  refine HN.out.mono ?_
  rintro e w1 ⟨rfl, h1⟩
  obtain ⟨x, cj⟩ := h1.hp.cellj h16 j Hj.out
  have zj := h1.hp.fz j
  have H1 := hid h1
  clear h1 HN
  go_wp2
  go_ret
  exact ⟨rfl, H1.out.set j _ (HS.out _)⟩
set_option maxRecDepth 100000 in
theorem rnErr (h : PSt X w q z g n v b p ad c a W) (hb : Byt b) (hl : b.length ≤ 140737488351232) (k j : Nat) (h16 : p.ip.length = 16) (hj : j < 25) (up : Int → Pk) (hs : ∀ x, (pkc p ad c).set j (.int .i64 x) = pkc (up x) ad c) :
    Calls Try.prog 72 #[.pointer (some ⟨q, 0, none⟩), .int .i64 k, .pointer (some ⟨g, j, none⟩)] W fun e W' => e = .returned (.int .i64 (rd b a k).2.2) ∧ PSt X w q z g n v b (up (sg (rd b a k).1)) ad c (rd b a k).2.1 W' := by
  have HN := hid (h.num hb hl k)
  have HS := hid hs
  have Hj := hid hj
  generalize rd b a k = r at *
  obtain ⟨m, a', er⟩ := r
  clear h hb hl hs hj
  go_enter Try.func72, Try.ntmps72
  go_wp2_with fail
  refine HN.out.mono ?_
  rintro e w1 ⟨rfl, h1⟩
  obtain ⟨x, cj⟩ := h1.hp.cellj h16 j Hj.out
  have zj := h1.hp.fz j
  have H1 := hid h1
  clear h1 HN
  go_wp2
  go_ret
  exact ⟨rfl, H1.out.set j _ (HS.out _)⟩
set_option maxRecDepth 100000 in
theorem rnI64 (h : PSt X w q z g n v b p ad c a W) (hb : Byt b) (hl : b.length ≤ 140737488351232) (k j : Nat) (h16 : p.ip.length = 16) (hj : j < 25) (up : Int → Pk) (hs : ∀ x, (pkc p ad c).set j (.int .i64 x) = pkc (up x) ad c) :
    Calls Try.prog 74 #[.pointer (some ⟨q, 0, none⟩), .int .i64 k, .pointer (some ⟨g, j, none⟩)] W fun e W' => e = .returned (.int .i64 (rd b a k).2.2) ∧ PSt X w q z g n v b (up (sg (rd b a k).1)) ad c (rd b a k).2.1 W' := by
  have HN := hid (h.num hb hl k)
  have HS := hid hs
  have Hj := hid hj
  generalize rd b a k = r at *
  obtain ⟨m, a', er⟩ := r
  clear h hb hl hs hj
  go_enter Try.func74, Try.ntmps74
  go_wp2_with fail
  refine HN.out.mono ?_
  rintro e w1 ⟨rfl, h1⟩
  obtain ⟨x, cj⟩ := h1.hp.cellj h16 j Hj.out
  have zj := h1.hp.fz j
  have H1 := hid h1
  clear h1 HN
  go_wp2
  go_ret
  exact ⟨rfl, H1.out.set j _ (HS.out _)⟩
set_option maxRecDepth 100000 in
theorem rnU64 (h : PSt X w q z g n v b p ad c a W) (hb : Byt b) (hl : b.length ≤ 140737488351232) (k j : Nat) (h16 : p.ip.length = 16) (hj : j < 25) (up : Int → Pk) (hs : ∀ x, (pkc p ad c).set j (.int .u64 x) = pkc (up x) ad c) :
    Calls Try.prog 66 #[.pointer (some ⟨q, 0, none⟩), .int .i64 k, .pointer (some ⟨g, j, none⟩)] W fun e W' => e = .returned (.int .i64 (rd b a k).2.2) ∧ PSt X w q z g n v b (up (rd b a k).1) ad c (rd b a k).2.1 W' := by
  have HN := hid (h.num hb hl k)
  have HS := hid hs
  have Hj := hid hj
  generalize rd b a k = r at *
  obtain ⟨m, a', er⟩ := r
  clear h hb hl hs hj
  go_enter Try.func66, Try.ntmps66
  go_wp2_with fail
  refine HN.out.mono ?_
  rintro e w1 ⟨rfl, h1⟩
  obtain ⟨x, cj⟩ := h1.hp.cellj h16 j Hj.out
  have zj := h1.hp.fz j
  have H1 := hid h1
  clear h1 HN
  go_wp2
  go_ret
  exact ⟨rfl, H1.out.set j _ (HS.out _)⟩
end
end Go.Proofs.Ytceeipejhmnkfaa

namespace Go.Proofs.Ytceeipejhmnkfaa
open Go Go.ChangeShapes Go.WideShapes Go.ChangeAt Go.RowKit

def CrP (X : Option (Nat × Obj)) (w : World) (q z g n : Nat) (v : Value) (b : List Int) (p : Pk) (ad : Option Addr) (c : Nat) (a : Nat) (er : Int) (e : Ending) (W' : World) : Prop := e = .returned (.int .i64 er) ∧ PSt X w q z g n v b p ad c a W'
section
variable {X : Option (Nat × Obj)} {w W : World} {q z g n : Nat} {v : Value} {b : List Int} {p : Pk} {ad : Option Addr} {c a : Nat}
set_option maxRecDepth 100000 in
theorem rh1 (h16 : p.ip.length = 16) (h : PSt X w q z g n v b p ad c a W) (hb : Byt b) (hl : b.length ≤ 140737488351232) :
    Calls Try.prog 61 #[.pointer (some ⟨n, 0, none⟩), .pointer (some ⟨n + 1, 0, none⟩)] W (CrP X w q z g n v b { p with ki := sg (rd b a 1).1 } ad c (rd b a 1).2.1 (rd b a 1).2.2) := by
  have c0 := cell_of_row W n 0 _ 64 _ h.hr
  have c1 := cell_of_row W (n + 1) 0 _ 82 _ h.hg
  have hd := h.on (Below.refl _ W).drew
  have HRN := hid (rnInt hd hb hl 1 0 h16 (by decide) (fun x => { p with ki := x }) (fun x => rfl))
  clear h hb hl hd
  go_enter Try.func61, Try.ntmps61
  go_upto_region 1 with (fail)
  refine D.wp_region_mix [1, 1, 0, 0, 3, 0] (fun W => W.cell? ⟨n, 0, none⟩ = some (.pointer (some ⟨q, 0, none⟩)) ∧ W.cell? ⟨n + 1, 0, none⟩ = some (.pointer (some ⟨g, 0, none⟩))) (by kernel_rfl) (by kernel_rfl) ⟨by simpa using c0, by simpa using c1⟩ ?_
  refine C.wpMix_read (.pointer (some ⟨q, 0, none⟩)) rfl rfl (by rintro W ⟨h1, h2⟩; go_simp) ?_
  simp only [Act.put, List.setIfInBounds_toArray, List.set_cons_zero, List.set_cons_succ]
  refine C.wpMix_read (.pointer (some ⟨g, 0, none⟩)) rfl rfl (by rintro W ⟨h1, h2⟩; go_simp) ?_
  simp only [Act.put, List.setIfInBounds_toArray, List.set_cons_zero, List.set_cons_succ]
  refine C.wpMix_value (.pointer (some ⟨g, 0, none⟩)) rfl rfl (by intro W; go_simp) ?_
  simp only [Act.put, List.setIfInBounds_toArray, List.set_cons_zero, List.set_cons_succ]
  refine C.wpMix_value (.pointer (some ⟨g, 0, none⟩)) rfl rfl (by intro W; go_simp) ?_
  simp only [Act.put, List.setIfInBounds_toArray, List.set_cons_zero, List.set_cons_succ]
  refine C.wpMix_call 62 #[.pointer (some ⟨q, 0, none⟩), .int .i64 1, .pointer (some ⟨g, 0, none⟩)] (by decide) rfl (by go_simp) ?_
  refine HRN.out.mono ?_
  rintro e W2 ⟨rfl, h2⟩
  refine ⟨_, rfl, fun h => (by cases h), ?_⟩
  simp only [Act.put, List.setIfInBounds_toArray, List.set_cons_zero, List.set_cons_succ]
  have H2 := hid h2
  clear h2
  refine' C.wpMix_value _ rfl rfl _ _
  rotate_left
  · intro W; go_simp; with_reducible rfl
  simp only [Act.put, List.setIfInBounds_toArray, List.set_cons_zero, List.set_cons_succ]
  refine C.wpMix_end ?_
  go_wp2
  go_ret
  exact ⟨rfl, H2.out⟩
set_option maxRecDepth 100000 in
theorem rh2 (h16 : p.ip.length = 16) (h : PSt X w q z g n v b p ad c a W) (hb : Byt b) (hl : b.length ≤ 140737488351232) :
    Calls Try.prog 63 #[.pointer (some ⟨n, 0, none⟩), .pointer (some ⟨n + 1, 0, none⟩)] W (CrP X w q z g n v b { p with fr := sg (rd b a 1).1 } ad c (rd b a 1).2.1 (rd b a 1).2.2) := by
  have c0 := cell_of_row W n 0 _ 64 _ h.hr
  have c1 := cell_of_row W (n + 1) 0 _ 82 _ h.hg
  have hd := h.on (Below.refl _ W).drew
  have HRN := hid (rnInt hd hb hl 1 1 h16 (by decide) (fun x => { p with fr := x }) (fun x => rfl))
  clear h hb hl hd
  go_enter Try.func63, Try.ntmps63
  go_upto_region 1 with (fail)
  refine D.wp_region_mix [1, 1, 0, 0, 3, 0] (fun W => W.cell? ⟨n, 0, none⟩ = some (.pointer (some ⟨q, 0, none⟩)) ∧ W.cell? ⟨n + 1, 0, none⟩ = some (.pointer (some ⟨g, 0, none⟩))) (by kernel_rfl) (by kernel_rfl) ⟨by simpa using c0, by simpa using c1⟩ ?_
  refine C.wpMix_read (.pointer (some ⟨q, 0, none⟩)) rfl rfl (by rintro W ⟨h1, h2⟩; go_simp) ?_
  simp only [Act.put, List.setIfInBounds_toArray, List.set_cons_zero, List.set_cons_succ]
  refine C.wpMix_read (.pointer (some ⟨g, 0, none⟩)) rfl rfl (by rintro W ⟨h1, h2⟩; go_simp) ?_
  simp only [Act.put, List.setIfInBounds_toArray, List.set_cons_zero, List.set_cons_succ]
  refine C.wpMix_value (.pointer (some ⟨g, 0, none⟩)) rfl rfl (by intro W; go_simp) ?_
  simp only [Act.put, List.setIfInBounds_toArray, List.set_cons_zero, List.set_cons_succ]
  refine C.wpMix_value (.pointer (some ⟨g, 1, none⟩)) rfl rfl (by intro W; go_simp) ?_
  simp only [Act.put, List.setIfInBounds_toArray, List.set_cons_zero, List.set_cons_succ]
  refine C.wpMix_call 62 #[.pointer (some ⟨q, 0, none⟩), .int .i64 1, .pointer (some ⟨g, 1, none⟩)] (by decide) rfl (by go_simp) ?_
  refine HRN.out.mono ?_
  rintro e W2 ⟨rfl, h2⟩
  refine ⟨_, rfl, fun h => (by cases h), ?_⟩
  simp only [Act.put, List.setIfInBounds_toArray, List.set_cons_zero, List.set_cons_succ]
  have H2 := hid h2
  clear h2
  refine' C.wpMix_value _ rfl rfl _ _
  rotate_left
  · intro W; go_simp; with_reducible rfl
  simp only [Act.put, List.setIfInBounds_toArray, List.set_cons_zero, List.set_cons_succ]
  refine C.wpMix_end ?_
  go_wp2
  go_ret
  exact ⟨rfl, H2.out⟩
set_option maxRecDepth 100000 in
theorem rh3 (h16 : p.ip.length = 16) (h : PSt X w q z g n v b p ad c a W) (hb : Byt b) (hl : b.length ≤ 140737488351232) :
    Calls Try.prog 64 #[.pointer (some ⟨n, 0, none⟩), .pointer (some ⟨n + 1, 0, none⟩)] W (CrP X w q z g n v b { p with to := sg (rd b a 1).1 } ad c (rd b a 1).2.1 (rd b a 1).2.2) := by
  have c0 := cell_of_row W n 0 _ 64 _ h.hr
  have c1 := cell_of_row W (n + 1) 0 _ 82 _ h.hg
  have hd := h.on (Below.refl _ W).drew
  have HRN := hid (rnInt hd hb hl 1 2 h16 (by decide) (fun x => { p with to := x }) (fun x => rfl))
  clear h hb hl hd
  go_enter Try.func64, Try.ntmps64
  go_upto_region 1 with (fail)
  refine D.wp_region_mix [1, 1, 0, 0, 3, 0] (fun W => W.cell? ⟨n, 0, none⟩ = some (.pointer (some ⟨q, 0, none⟩)) ∧ W.cell? ⟨n + 1, 0, none⟩ = some (.pointer (some ⟨g, 0, none⟩))) (by kernel_rfl) (by kernel_rfl) ⟨by simpa using c0, by simpa using c1⟩ ?_
  refine C.wpMix_read (.pointer (some ⟨q, 0, none⟩)) rfl rfl (by rintro W ⟨h1, h2⟩; go_simp) ?_
  simp only [Act.put, List.setIfInBounds_toArray, List.set_cons_zero, List.set_cons_succ]
  refine C.wpMix_read (.pointer (some ⟨g, 0, none⟩)) rfl rfl (by rintro W ⟨h1, h2⟩; go_simp) ?_
  simp only [Act.put, List.setIfInBounds_toArray, List.set_cons_zero, List.set_cons_succ]
  refine C.wpMix_value (.pointer (some ⟨g, 0, none⟩)) rfl rfl (by intro W; go_simp) ?_
  simp only [Act.put, List.setIfInBounds_toArray, List.set_cons_zero, List.set_cons_succ]
  refine C.wpMix_value (.pointer (some ⟨g, 2, none⟩)) rfl rfl (by intro W; go_simp) ?_
  simp only [Act.put, List.setIfInBounds_toArray, List.set_cons_zero, List.set_cons_succ]
  refine C.wpMix_call 62 #[.pointer (some ⟨q, 0, none⟩), .int .i64 1, .pointer (some ⟨g, 2, none⟩)] (by decide) rfl (by go_simp) ?_
  refine HRN.out.mono ?_
  rintro e W2 ⟨rfl, h2⟩
  refine ⟨_, rfl, fun h => (by cases h), ?_⟩
  simp only [Act.put, List.setIfInBounds_toArray, List.set_cons_zero, List.set_cons_succ]
  have H2 := hid h2
  clear h2
  refine' C.wpMix_value _ rfl rfl _ _
  rotate_left
  · intro W; go_simp; with_reducible rfl
  simp only [Act.put, List.setIfInBounds_toArray, List.set_cons_zero, List.set_cons_succ]
  refine C.wpMix_end ?_
  go_wp2
  go_ret
  exact ⟨rfl, H2.out⟩
set_option maxRecDepth 100000 in
theorem rh4 (h16 : p.ip.length = 16) (h : PSt X w q z g n v b p ad c a W) (hb : Byt b) (hl : b.length ≤ 140737488351232) :
    Calls Try.prog 65 #[.pointer (some ⟨n, 0, none⟩), .pointer (some ⟨n + 1, 0, none⟩)] W (CrP X w q z g n v b { p with sq := (rd b a 8).1 } ad c (rd b a 8).2.1 (rd b a 8).2.2) := by
  have c0 := cell_of_row W n 0 _ 64 _ h.hr
  have c1 := cell_of_row W (n + 1) 0 _ 82 _ h.hg
  have hd := h.on (Below.refl _ W).drew
  have HRN := hid (rnU64 hd hb hl 8 3 h16 (by decide) (fun x => { p with sq := x }) (fun x => rfl))
  clear h hb hl hd
  go_enter Try.func65, Try.ntmps65
  go_upto_region 1 with (fail)
  refine D.wp_region_mix [1, 1, 0, 0, 3, 0] (fun W => W.cell? ⟨n, 0, none⟩ = some (.pointer (some ⟨q, 0, none⟩)) ∧ W.cell? ⟨n + 1, 0, none⟩ = some (.pointer (some ⟨g, 0, none⟩))) (by kernel_rfl) (by kernel_rfl) ⟨by simpa using c0, by simpa using c1⟩ ?_
  refine C.wpMix_read (.pointer (some ⟨q, 0, none⟩)) rfl rfl (by rintro W ⟨h1, h2⟩; go_simp) ?_
  simp only [Act.put, List.setIfInBounds_toArray, List.set_cons_zero, List.set_cons_succ]
  refine C.wpMix_read (.pointer (some ⟨g, 0, none⟩)) rfl rfl (by rintro W ⟨h1, h2⟩; go_simp) ?_
  simp only [Act.put, List.setIfInBounds_toArray, List.set_cons_zero, List.set_cons_succ]
  refine C.wpMix_value (.pointer (some ⟨g, 0, none⟩)) rfl rfl (by intro W; go_simp) ?_
  simp only [Act.put, List.setIfInBounds_toArray, List.set_cons_zero, List.set_cons_succ]
  refine C.wpMix_value (.pointer (some ⟨g, 3, none⟩)) rfl rfl (by intro W; go_simp) ?_
  simp only [Act.put, List.setIfInBounds_toArray, List.set_cons_zero, List.set_cons_succ]
  refine C.wpMix_call 66 #[.pointer (some ⟨q, 0, none⟩), .int .i64 8, .pointer (some ⟨g, 3, none⟩)] (by decide) rfl (by go_simp) ?_
  refine HRN.out.mono ?_
  rintro e W2 ⟨rfl, h2⟩
  refine ⟨_, rfl, fun h => (by cases h), ?_⟩
  simp only [Act.put, List.setIfInBounds_toArray, List.set_cons_zero, List.set_cons_succ]
  have H2 := hid h2
  clear h2
  refine' C.wpMix_value _ rfl rfl _ _
  rotate_left
  · intro W; go_simp; with_reducible rfl
  simp only [Act.put, List.setIfInBounds_toArray, List.set_cons_zero, List.set_cons_succ]
  refine C.wpMix_end ?_
  go_wp2
  go_ret
  exact ⟨rfl, H2.out⟩
set_option maxRecDepth 100000 in
theorem rr1 (h16 : p.ip.length = 16) (h : PSt X w q z g n v b p ad c a W) (hb : Byt b) (hl : b.length ≤ 140737488351232) :
    Calls Try.prog 67 #[.pointer (some ⟨n, 0, none⟩), .pointer (some ⟨n + 1, 0, none⟩)] W (CrP X w q z g n v b { p with ca := (rd b a 8).1 } ad c (rd b a 8).2.1 (rd b a 8).2.2) := by
  have c0 := cell_of_row W n 0 _ 64 _ h.hr
  have c1 := cell_of_row W (n + 1) 0 _ 82 _ h.hg
  have hd := h.on (Below.refl _ W).drew
  have HRN := hid (rnU64 hd hb hl 8 4 h16 (by decide) (fun x => { p with ca := x }) (fun x => rfl))
  clear h hb hl hd
  go_enter Try.func67, Try.ntmps67
  go_upto_region 1 with (fail)
  refine D.wp_region_mix [1, 1, 0, 0, 3, 0] (fun W => W.cell? ⟨n, 0, none⟩ = some (.pointer (some ⟨q, 0, none⟩)) ∧ W.cell? ⟨n + 1, 0, none⟩ = some (.pointer (some ⟨g, 0, none⟩))) (by kernel_rfl) (by kernel_rfl) ⟨by simpa using c0, by simpa using c1⟩ ?_
  refine C.wpMix_read (.pointer (some ⟨q, 0, none⟩)) rfl rfl (by rintro W ⟨h1, h2⟩; go_simp) ?_
  simp only [Act.put, List.setIfInBounds_toArray, List.set_cons_zero, List.set_cons_succ]
  refine C.wpMix_read (.pointer (some ⟨g, 0, none⟩)) rfl rfl (by rintro W ⟨h1, h2⟩; go_simp) ?_
  simp only [Act.put, List.setIfInBounds_toArray, List.set_cons_zero, List.set_cons_succ]
  refine C.wpMix_value (.pointer (some ⟨g, 0, none⟩)) rfl rfl (by intro W; go_simp) ?_
  simp only [Act.put, List.setIfInBounds_toArray, List.set_cons_zero, List.set_cons_succ]
  refine C.wpMix_value (.pointer (some ⟨g, 4, none⟩)) rfl rfl (by intro W; go_simp) ?_
  simp only [Act.put, List.setIfInBounds_toArray, List.set_cons_zero, List.set_cons_succ]
  refine C.wpMix_call 66 #[.pointer (some ⟨q, 0, none⟩), .int .i64 8, .pointer (some ⟨g, 4, none⟩)] (by decide) rfl (by go_simp) ?_
  refine HRN.out.mono ?_
  rintro e W2 ⟨rfl, h2⟩
  refine ⟨_, rfl, fun h => (by cases h), ?_⟩
  simp only [Act.put, List.setIfInBounds_toArray, List.set_cons_zero, List.set_cons_succ]
  have H2 := hid h2
  clear h2
  refine' C.wpMix_value _ rfl rfl _ _
  rotate_left
  · intro W; go_simp; with_reducible rfl
  simp only [Act.put, List.setIfInBounds_toArray, List.set_cons_zero, List.set_cons_succ]
  refine C.wpMix_end ?_
  go_wp2
  go_ret
  exact ⟨rfl, H2.out⟩
set_option maxRecDepth 100000 in
theorem rr3 (h16 : p.ip.length = 16) (h : PSt X w q z g n v b p ad c a W) (hb : Byt b) (hl : b.length ≤ 140737488351232) :
    Calls Try.prog 70 #[.pointer (some ⟨n, 0, none⟩), .pointer (some ⟨n + 1, 0, none⟩)] W (CrP X w q z g n v b { p with me := sg (rd b a 1).1 } ad c (rd b a 1).2.1 (rd b a 1).2.2) := by
  have c0 := cell_of_row W n 0 _ 64 _ h.hr
  have c1 := cell_of_row W (n + 1) 0 _ 82 _ h.hg
  have hd := h.on (Below.refl _ W).drew
  have HRN := hid (rnInt hd hb hl 1 21 h16 (by decide) (fun x => { p with me := x }) (fun x => pkc_setb h16 0 _ rfl rfl rfl rfl rfl rfl rfl))
  clear h hb hl hd
  go_enter Try.func70, Try.ntmps70
  go_upto_region 1 with (fail)
  refine D.wp_region_mix [1, 1, 0, 0, 3, 0] (fun W => W.cell? ⟨n, 0, none⟩ = some (.pointer (some ⟨q, 0, none⟩)) ∧ W.cell? ⟨n + 1, 0, none⟩ = some (.pointer (some ⟨g, 0, none⟩))) (by kernel_rfl) (by kernel_rfl) ⟨by simpa using c0, by simpa using c1⟩ ?_
  refine C.wpMix_read (.pointer (some ⟨q, 0, none⟩)) rfl rfl (by rintro W ⟨h1, h2⟩; go_simp) ?_
  simp only [Act.put, List.setIfInBounds_toArray, List.set_cons_zero, List.set_cons_succ]
  refine C.wpMix_read (.pointer (some ⟨g, 0, none⟩)) rfl rfl (by rintro W ⟨h1, h2⟩; go_simp) ?_
  simp only [Act.put, List.setIfInBounds_toArray, List.set_cons_zero, List.set_cons_succ]
  refine C.wpMix_value (.pointer (some ⟨g, 0, none⟩)) rfl rfl (by intro W; go_simp) ?_
  simp only [Act.put, List.setIfInBounds_toArray, List.set_cons_zero, List.set_cons_succ]
  refine C.wpMix_value (.pointer (some ⟨g, 21, none⟩)) rfl rfl (by intro W; go_simp) ?_
  simp only [Act.put, List.setIfInBounds_toArray, List.set_cons_zero, List.set_cons_succ]
  refine C.wpMix_call 62 #[.pointer (some ⟨q, 0, none⟩), .int .i64 1, .pointer (some ⟨g, 21, none⟩)] (by decide) rfl (by go_simp) ?_
  refine HRN.out.mono ?_
  rintro e W2 ⟨rfl, h2⟩
  refine ⟨_, rfl, fun h => (by cases h), ?_⟩
  simp only [Act.put, List.setIfInBounds_toArray, List.set_cons_zero, List.set_cons_succ]
  have H2 := hid h2
  clear h2
  refine' C.wpMix_value _ rfl rfl _ _
  rotate_left
  · intro W; go_simp; with_reducible rfl
  simp only [Act.put, List.setIfInBounds_toArray, List.set_cons_zero, List.set_cons_succ]
  refine C.wpMix_end ?_
  go_wp2
  go_ret
  exact ⟨rfl, H2.out⟩
set_option maxRecDepth 100000 in
theorem rr4 (h16 : p.ip.length = 16) (h : PSt X w q z g n v b p ad c a W) (hb : Byt b) (hl : b.length ≤ 140737488351232) :
    Calls Try.prog 71 #[.pointer (some ⟨n, 0, none⟩), .pointer (some ⟨n + 1, 0, none⟩)] W (CrP X w q z g n v b { p with co := sg (rd b a 1).1 } ad c (rd b a 1).2.1 (rd b a 1).2.2) := by
  have c0 := cell_of_row W n 0 _ 64 _ h.hr
  have c1 := cell_of_row W (n + 1) 0 _ 82 _ h.hg
  have hd := h.on (Below.refl _ W).drew
  have HRN := hid (rnErr hd hb hl 1 23 h16 (by decide) (fun x => { p with co := x }) (fun x => pkc_setb h16 2 _ rfl rfl rfl rfl rfl rfl rfl))
  clear h hb hl hd
  go_enter Try.func71, Try.ntmps71
  go_upto_region 1 with (fail)
  refine D.wp_region_mix [1, 1, 0, 0, 3, 0] (fun W => W.cell? ⟨n, 0, none⟩ = some (.pointer (some ⟨q, 0, none⟩)) ∧ W.cell? ⟨n + 1, 0, none⟩ = some (.pointer (some ⟨g, 0, none⟩))) (by kernel_rfl) (by kernel_rfl) ⟨by simpa using c0, by simpa using c1⟩ ?_
  refine C.wpMix_read (.pointer (some ⟨q, 0, none⟩)) rfl rfl (by rintro W ⟨h1, h2⟩; go_simp) ?_
  simp only [Act.put, List.setIfInBounds_toArray, List.set_cons_zero, List.set_cons_succ]
  refine C.wpMix_read (.pointer (some ⟨g, 0, none⟩)) rfl rfl (by rintro W ⟨h1, h2⟩; go_simp) ?_
  simp only [Act.put, List.setIfInBounds_toArray, List.set_cons_zero, List.set_cons_succ]
  refine C.wpMix_value (.pointer (some ⟨g, 0, none⟩)) rfl rfl (by intro W; go_simp) ?_
  simp only [Act.put, List.setIfInBounds_toArray, List.set_cons_zero, List.set_cons_succ]
  refine C.wpMix_value (.pointer (some ⟨g, 23, none⟩)) rfl rfl (by intro W; go_simp) ?_
  simp only [Act.put, List.setIfInBounds_toArray, List.set_cons_zero, List.set_cons_succ]
  refine C.wpMix_call 72 #[.pointer (some ⟨q, 0, none⟩), .int .i64 1, .pointer (some ⟨g, 23, none⟩)] (by decide) rfl (by go_simp) ?_
  refine HRN.out.mono ?_
  rintro e W2 ⟨rfl, h2⟩
  refine ⟨_, rfl, fun h => (by cases h), ?_⟩
  simp only [Act.put, List.setIfInBounds_toArray, List.set_cons_zero, List.set_cons_succ]
  have H2 := hid h2
  clear h2
  refine' C.wpMix_value _ rfl rfl _ _
  rotate_left
  · intro W; go_simp; with_reducible rfl
  simp only [Act.put, List.setIfInBounds_toArray, List.set_cons_zero, List.set_cons_succ]
  refine C.wpMix_end ?_
  go_wp2
  go_ret
  exact ⟨rfl, H2.out⟩
set_option maxRecDepth 100000 in
theorem rr5 (h16 : p.ip.length = 16) (h : PSt X w q z g n v b p ad c a W) (hb : Byt b) (hl : b.length ≤ 140737488351232) :
    Calls Try.prog 73 #[.pointer (some ⟨n, 0, none⟩), .pointer (some ⟨n + 1, 0, none⟩)] W (CrP X w q z g n v b { p with n := sg (rd b a 8).1 } ad c (rd b a 8).2.1 (rd b a 8).2.2) := by
  have c0 := cell_of_row W n 0 _ 64 _ h.hr
  have c1 := cell_of_row W (n + 1) 0 _ 82 _ h.hg
  have hd := h.on (Below.refl _ W).drew
  have HRN := hid (rnI64 hd hb hl 8 22 h16 (by decide) (fun x => { p with n := x }) (fun x => pkc_setb h16 1 _ rfl rfl rfl rfl rfl rfl rfl))
  clear h hb hl hd
  go_enter Try.func73, Try.ntmps73
  go_upto_region 1 with (fail)
  refine D.wp_region_mix [1, 1, 0, 0, 3, 0] (fun W => W.cell? ⟨n, 0, none⟩ = some (.pointer (some ⟨q, 0, none⟩)) ∧ W.cell? ⟨n + 1, 0, none⟩ = some (.pointer (some ⟨g, 0, none⟩))) (by kernel_rfl) (by kernel_rfl) ⟨by simpa using c0, by simpa using c1⟩ ?_
  refine C.wpMix_read (.pointer (some ⟨q, 0, none⟩)) rfl rfl (by rintro W ⟨h1, h2⟩; go_simp) ?_
  simp only [Act.put, List.setIfInBounds_toArray, List.set_cons_zero, List.set_cons_succ]
  refine C.wpMix_read (.pointer (some ⟨g, 0, none⟩)) rfl rfl (by rintro W ⟨h1, h2⟩; go_simp) ?_
  simp only [Act.put, List.setIfInBounds_toArray, List.set_cons_zero, List.set_cons_succ]
  refine C.wpMix_value (.pointer (some ⟨g, 0, none⟩)) rfl rfl (by intro W; go_simp) ?_
  simp only [Act.put, List.setIfInBounds_toArray, List.set_cons_zero, List.set_cons_succ]
  refine C.wpMix_value (.pointer (some ⟨g, 22, none⟩)) rfl rfl (by intro W; go_simp) ?_
  simp only [Act.put, List.setIfInBounds_toArray, List.set_cons_zero, List.set_cons_succ]
  refine C.wpMix_call 74 #[.pointer (some ⟨q, 0, none⟩), .int .i64 8, .pointer (some ⟨g, 22, none⟩)] (by decide) rfl (by go_simp) ?_
  refine HRN.out.mono ?_
  rintro e W2 ⟨rfl, h2⟩
  refine ⟨_, rfl, fun h => (by cases h), ?_⟩
  simp only [Act.put, List.setIfInBounds_toArray, List.set_cons_zero, List.set_cons_succ]
  have H2 := hid h2
  clear h2
  refine' C.wpMix_value _ rfl rfl _ _
  rotate_left
  · intro W; go_simp; with_reducible rfl
  simp only [Act.put, List.setIfInBounds_toArray, List.set_cons_zero, List.set_cons_succ]
  refine C.wpMix_end ?_
  go_wp2
  go_ret
  exact ⟨rfl, H2.out⟩
end
end Go.Proofs.Ytceeipejhmnkfaa

namespace Go.Proofs.Ytceeipejhmnkfaa
open Go Go.ChangeShapes Go.WideShapes Go.ChangeAt Go.RowKit

theorem rd_byte {b : List Int} {a : Nat} (ha : a < b.length) : rd b a 1 = (b.getD a 0, a + 1, 0) := by
  have := rd_al (f := b) (a := a) (k := 1) (.inl rfl) (by omega) (by omega)
  rw [take_one ha] at this
  exact this
theorem rd_none {b : List Int} {a : Nat} (ha : b.length ≤ a) : rd b a 1 = (0, a, 6) := rd_short (k := 1) (.inl rfl) (by omega)
section
variable {W : World} {q t o a : Nat} {v x : Value} {b : List Int}
set_option maxRecDepth 100000 in
theorem rnByte (h : RdW W q v a b) (hb : Byt b) (hl : b.length ≤ 140737488351232) (ht : t ≠ q) (hc : W.cell? ⟨t, o, none⟩ = some x) (hz : W.frozen? ⟨t, o, none⟩ = false) :
    Calls Try.prog 82 #[.pointer (some ⟨q, 0, none⟩), .int .i64 1, .pointer (some ⟨t, o, none⟩)] W fun e W' => e = .returned (.int .i64 (rd b a 1).2.2) ∧ ∃ W1, RdW W1 q v (rd b a 1).2.1 b ∧ Fr (fun j => j = q) W W1 ∧ W' = W1.setCell ⟨t, o, none⟩ (.int .u8 (IntKind.u8.wrap (rd b a 1).1)) := by
  have HN := hid (RdNum_any W q a v b 1 h hb hl)
  unfold RNumPost at HN
  have hlt : t < W.heap.size := by
    rcases Nat.lt_or_ge t W.heap.size with h1 | h1
    · exact h1
    · simp [World.cell?, Array.getElem?_eq_none h1] at hc
  have HT := hid (show ∀ W1, Fr (fun j => j = q) W W1 → W1.cell? ⟨t, o, none⟩ = some x ∧ W1.frozen? ⟨t, o, none⟩ = false from fun W1 hf => by
    have e := hf.block t hlt ht
    exact ⟨(World.cell?_of_block (w := W) (w' := W1) (a := ⟨t, o, none⟩) e).trans hc, by rw [← hz]; unfold World.frozen?; rw [e]⟩)
  generalize rd b a 1 = r at *
  obtain ⟨m, a', er⟩ := r
  clear h hb hl hc hz hlt ht
  go_enter Try.func82, Try.ntmps82
  go_wp2_with fail
  refine HN.out.mono ?_
  rintro e w1 ⟨rfl, h1, f1⟩
  obtain ⟨cj, zj⟩ := HT.out w1 f1
  have H1 := hid h1
  have HF1 := hid f1
  clear h1 HN f1 HT
  go_wp2
  go_ret
  exact ⟨rfl, w1, H1.out, HF1.out, rfl⟩
end
/-- The row when i bytes were read. -/
def rowAt (cur : List Value) (o : Nat) (b : List Int) (a i : Nat) : List Value := cur.take o ++ u8l ((b.drop a).take i) ++ cur.drop (o + i)
theorem rowAt_0 (cur : List Value) (o : Nat) (b : List Int) (a : Nat) : rowAt cur o b a 0 = cur := by simp [rowAt, u8l]
theorem rowAt_len {cur : List Value} {o : Nat} {b : List Int} {a i : Nat} (ho : o + i ≤ cur.length) (hi : a + i ≤ b.length) : (rowAt cur o b a i).length = cur.length := by
  simp [rowAt, u8l]; omega
theorem rowAt_set {cur : List Value} {o : Nat} {b : List Int} {a i : Nat} (ho : o + i < cur.length) (hi : a + i < b.length) : (rowAt cur o b a i).set (o + i) (.int .u8 (b.getD (a + i) 0)) = rowAt cur o b a (i + 1) := by
  have hl : (cur.take o ++ u8l ((b.drop a).take i)).length = o + i := by simp [u8l]; omega
  have hb : (b.drop a)[i]? = some (b.getD (a + i) 0) := by rw [List.getElem?_drop]; exact getD_at hi
  unfold rowAt
  rw [List.set_append_right _ _ (by omega), hl, Nat.sub_self, List.drop_eq_getElem_cons ho, List.set_cons_zero, List.take_add_one, hb]
  simp [u8l]
  rfl
theorem rowAt_set0 {cur : List Value} {o : Nat} {b : List Int} {a i : Nat} (ho : o + i < cur.length) (hi : a + i ≤ b.length) (hz : cur[o + i]? = some (.int .u8 0)) : (rowAt cur o b a i).set (o + i) (.int .u8 0) = rowAt cur o b a i := by
  have hl : (cur.take o ++ u8l ((b.drop a).take i)).length = o + i := by simp [u8l]; omega
  rw [List.getElem?_eq_getElem ho] at hz
  unfold rowAt
  rw [List.set_append_right _ _ (by omega), hl, Nat.sub_self, List.drop_eq_getElem_cons ho, List.set_cons_zero]
  rw [Option.some.inj hz]
/-- Till now. -/
structure BSt (W0 : World) (q t : Nat) (v : Value) (b : List Int) (a : Nat) (row : List Value) (T : TypeId) (W : World) : Prop where
  rw_ : RdW W q v a b
  ht : W.heap[t]? = some (.cells row.toArray T (0, 0))
  f : Fr (fun j => j = q ∨ j = t) W0 W
theorem BSt.step {W0 W W1 : World} {q t : Nat} {v : Value} {b : List Int} {a a' : Nat} {row row' : List Value} {T : TypeId} {y : Value} {k : Nat} (h : BSt W0 q t v b a row T W) (hr : RdW W1 q v a' b) (hf : Fr (fun j => j = q) W W1) (ht : t ≠ q) (hv : v.ownBlock ≠ some t) (hs : row.set k y = row') : BSt W0 q t v b a' row' T (W1.setCell ⟨t, k, none⟩ y) := by
  have h1 : W1.heap[t]? = some (.cells row.toArray T (0, 0)) := by rw [hf.block t (lt_of_heap h.ht) ht]; exact h.ht
  have h2 : Fr (fun j => j = t) W1 (W1.setCell ⟨t, k, none⟩ y) := (Fr.refl (fun j => j = t) W1).setCell ⟨t, k, none⟩ y (fun _ => rfl)
  refine ⟨hr.fr h2 (fun e => ht e.symm) (fun k hk e => hv (by rw [hk, e])), ?_, (h.f.trans hf (fun j hj _ => .inl hj)).trans h2 (fun j hj _ => .inr hj)⟩
  rw [heap_setCell_same W1 t k _ _ _ h1, List.setIfInBounds_toArray, hs]
def rbE (b : List Int) (a m : Nat) : Int := if a + m ≤ b.length then 0 else 6
def rbN (b : List Int) (a m : Nat) : Nat := min m (b.length - a)
def RbP (W0 : World) (q t o : Nat) (v : Value) (b : List Int) (a m : Nat) (cur : List Value) (T : TypeId) (e : Ending) (W : World) : Prop := e = .returned (.int .i64 (rbE b a m)) ∧ BSt W0 q t v b (a + rbN b a m) (rowAt cur o b a (rbN b a m)) T W
set_option maxRecDepth 100000 in
set_option maxHeartbeats 1000000 in
theorem readBytes_any (W : World) (q t o a m cap : Nat) (v : Value) (b : List Int) (cur : List Value) (T : TypeId) (h : RdW W q v a b) (hb : Byt b) (hl : b.length ≤ 140737488351232) (ht : t ≠ q) (hv : v.ownBlock ≠ some t) (hc : W.heap[t]? = some (.cells cur.toArray T (0, 0))) (ho : o + m ≤ cur.length)
    (hz : ∀ j, o ≤ j → j < o + m → cur[j]? = some (.int .u8 0)) (hm : m ≤ 1000) (hcap : m ≤ cap) :
    Calls Try.prog 69 #[.pointer (some ⟨q, 0, none⟩), .slice (some ⟨t, o, none⟩) m cap] W (RbP W q t o v b a m cur T) := by
  have HB0 := hid (show BSt W q t v b (a + 0) (rowAt cur o b a 0) T W from ⟨h, by rw [rowAt_0]; exact hc, Fr.refl _ _⟩)
  have HLE := hid h.le
  have HB := hid hb
  have HL := hid hl
  have HT := hid ht
  have HV := hid hv
  have HO := hid ho
  have HZ := hid hz
  clear h hb hl ht hv hc ho hz
  go_enter Try.func69, Try.ntmps69
  go_wp2
  go_loopw [9] (fun i wr => ∃ r : Nat, r ≤ m ∧ i = .int .i64 r ∧ RowKit.Hid (a + r ≤ b.length) ∧ RowKit.Hid (BSt W q t v b (a + r) (rowAt cur o b a r) T wr)) (fun i _ => m - (intOf i).toNat)
  case atStart => exact ⟨0, by omega, rfl, HLE, HB0⟩
  case round =>
    obtain ⟨r, hr, rfl, HAR, HR⟩ := hrel
    by_cases hrm : r < m
    · have hlen := rowAt_len (cur := cur) (o := o) (b := b) (a := a) (i := r) (by have := HO.out; omega) HAR.out
      obtain ⟨x, hx⟩ : ∃ x, wr.cell? ⟨t, o + r, none⟩ = some x := by
        have hlt : o + r < (rowAt cur o b a r).length := by rw [hlen]; have := HO.out; omega
        exact ⟨_, by simp [World.cell?, HR.out.ht, hlt]; rfl⟩
      have hfz : wr.frozen? ⟨t, o + r, none⟩ = false := frozen_of_row wr t (o + r) _ T HR.out.ht
      have HN := hid (rnByte HR.out.rw_ HB.out HL.out HT.out hx hfz)
      by_cases hab : a + r < b.length
      · rw [rd_byte hab] at HN
        have hb0 := (getD_byt HB.out (a + r)).1
        have hb1 := (getD_byt HB.out (a + r)).2
        have hw : IntKind.u8.wrap (b.getD (a + r) 0) = b.getD (a + r) 0 := IntWalk.u8_in _ ⟨hb0, hb1⟩
        rw [hw] at HN
        have HST := hid (fun W1 (k1 : RdW W1 q v (a + r + 1) b) (k2 : Fr (fun j => j = q) wr W1) => HR.out.step (y := .int .u8 (b.getD (a + r) 0)) k1 k2 HT.out HV.out (rowAt_set (cur := cur) (o := o) (a := a) (i := r) (b := b) (by have := HO.out; omega) hab))
        have HAB := hid (show a + (r + 1) ≤ b.length by omega)
        clear hlen hx hfz hab hb0 hb1 hw HR
        go_wp2_with fail
        refine HN.out.mono ?_
        rintro e w2 ⟨rfl, W1, k1, k2, rfl⟩
        have H2 := hid (HST.out W1 k1 k2)
        obtain ⟨w2, hw2⟩ : ∃ w2, w2 = W1.setCell ⟨t, o + r, none⟩ (.int .u8 (b.getD (a + r) 0)) := ⟨_, rfl⟩
        rw [← hw2] at H2 ⊢
        clear k1 k2 hw2 HN HST
        go_wp2
        go_roundw
        case rel => exact ⟨r + 1, by omega, by go_num, HAB, H2⟩
        case measure => simp [intOf]; omega
      · rw [rd_none (by omega)] at HN
        have HST := hid (fun W1 (k1 : RdW W1 q v (a + r) b) (k2 : Fr (fun j => j = q) wr W1) => HR.out.step (y := .int .u8 (IntKind.u8.wrap 0)) k1 k2 HT.out HV.out (rowAt_set0 (cur := cur) (o := o) (a := a) (i := r) (b := b) (by have := HO.out; omega) HAR.out (HZ.out (o + r) (by omega) (by omega))))
        have HE1 := hid (show rbE b a m = 6 by unfold rbE; rw [if_neg (by have := HAR.out; omega)])
        have HE2 := hid (show rbN b a m = r by unfold rbN; have := HAR.out; omega)
        clear hlen hx hfz hab HR
        go_wp2_with fail
        refine HN.out.mono ?_
        rintro e w2 ⟨rfl, W1, k1, k2, rfl⟩
        have H2 := hid (HST.out W1 k1 k2)
        obtain ⟨w2, hw2⟩ : ∃ w2, w2 = W1.setCell ⟨t, o + r, none⟩ (.int .u8 (IntKind.u8.wrap 0)) := ⟨_, rfl⟩
        rw [← hw2] at H2 ⊢
        clear k1 k2 hw2 HN HST
        go_wp2
        go_ret
        unfold RbP
        rw [HE1.out, HE2.out]
        exact ⟨rfl, H2.out⟩
    · obtain rfl : r = m := by omega
      have HE1 := hid (show rbE b a r = 0 by unfold rbE; rw [if_pos HAR.out])
      have HE2 := hid (show rbN b a r = r by unfold rbN; have := HAR.out; omega)
      clear hrm
      go_wp2
      go_ret
      unfold RbP
      rw [HE1.out, HE2.out]
      exact ⟨rfl, HR.out⟩
end Go.Proofs.Ytceeipejhmnkfaa

namespace Go.Proofs.Ytceeipejhmnkfaa
open Go Go.ChangeShapes Go.WideShapes Go.ChangeAt Go.RowKit

def ipN (b : List Int) (a : Nat) : List Int := (b.drop a).take (rbN b a 16) ++ g0.drop (rbN b a 16)
theorem ipN_len (b : List Int) (a : Nat) : (ipN b a).length = 16 := by
  simp [ipN, rbN, g0]; omega
theorem ipN_all {b : List Int} {a : Nat} (h : a + 16 ≤ b.length) : ipN b a = (b.drop a).take 16 := by
  have : rbN b a 16 = 16 := by unfold rbN; omega
  unfold ipN
  rw [this]
  simp [g0]
theorem row_ip {p : Pk} {ad : Option Addr} {c : Nat} (hip : p.ip = g0) (b : List Int) (a i : Nat) (hi : i ≤ 16) : rowAt (pkc p ad c) 5 b a i = pkc { p with ip := (b.drop a).take i ++ g0.drop i } ad c := by
  have t5 : (pkc p ad c).take 5 = [.int .i64 p.ki, .int .i64 p.fr, .int .i64 p.to, .int .u64 p.sq, .int .u64 p.ca] := rfl
  have d5 : (pkc p ad c).drop 5 = u8l g0 ++ [.int .i64 p.me, .int .i64 p.n, .int .i64 p.co, .slice ad p.rs.length c] := by rw [← hip]; rfl
  have dd : (pkc p ad c).drop (5 + i) = u8l (g0.drop i) ++ [.int .i64 p.me, .int .i64 p.n, .int .i64 p.co, .slice ad p.rs.length c] := by
    rw [← List.drop_drop, d5, List.drop_append_of_le_length (by simp [u8l, g0]; omega)]
    simp [u8l, List.map_drop]
  unfold rowAt
  rw [t5, dd]
  simp [pkc, u8l]
theorem pkc_z {p : Pk} {ad : Option Addr} {c : Nat} (hip : p.ip = g0) (j : Nat) (h0 : 5 ≤ j) (h1 : j < 5 + 16) : (pkc p ad c)[j]? = some (.int .u8 0) := by
  obtain ⟨k, rfl⟩ := Nat.exists_eq_add_of_le h0
  unfold pkc
  rw [hip, List.getElem?_append_right (by simp), List.getElem?_append_left (by simp [u8l, g0]; omega)]
  simp only [List.length_cons, List.length_nil]
  rw [show 5 + k - (0 + 1 + 1 + 1 + 1 + 1) = k by omega, show u8l g0 = List.replicate 16 (.int .u8 0) from rfl, List.getElem?_replicate, if_pos (by omega)]
section
variable {X : Option (Nat × Obj)} {w W : World} {q z g n : Nat} {v : Value} {b : List Int} {p : Pk} {ad : Option Addr} {c a : Nat}
/-- What the program's readBytes does to the packet's block. -/
theorem PSt.both {W W' : World} {a' : Nat} {row : List Value} {p' : Pk} {ad' : Option Addr} {c' : Nat} (h : PSt X w q z g n v b p ad c a W) (k : BSt W q g v b a' row 28 W') (hrow : row = pkc p' ad' c') : PSt X w q z g n v b p' ad' c' a' W' := by
  obtain ⟨n1, n2, n3, n4, n5, n6, n7, n8, n9⟩ := h.ne
  refine ⟨k.rw_, ?_, ?_, ?_, h.hz.fr' k.f (by omega), h.b.trans (k.f.below h.b.size (fun j hj => by have := h.lo; omega)), h.lo, h.ne, h.own, fun k' o hk => by
    obtain ⟨e1, e2, e3⟩ := h.ex k' o hk
    exact ⟨by rw [k.f.block k' (lt_of_heap e1) (by omega)]; exact e1, e2, e3⟩⟩
  · rw [k.f.block _ (lt_of_heap h.hr) (by omega)]; exact h.hr
  · rw [k.f.block _ (lt_of_heap h.hg) (by omega)]; exact h.hg
  · have := k.ht
    rw [hrow] at this
    exact this
set_option maxRecDepth 100000 in
theorem rr2 (hip : p.ip = g0) (h : PSt X w q z g n v b p ad c a W) (hb : Byt b) (hl : b.length ≤ 140737488351232) :
    Calls Try.prog 68 #[.pointer (some ⟨n, 0, none⟩), .pointer (some ⟨n + 1, 0, none⟩)] W (CrP X w q z g n v b { p with ip := ipN b a } ad c (a + rbN b a 16) (rbE b a 16)) := by
  have c0 := cell_of_row W n 0 _ 64 _ h.hr
  have c1 := cell_of_row W (n + 1) 0 _ 82 _ h.hg
  have hd := h.on (Below.refl _ W).drew
  have hrb := readBytes_any W.drew q g 5 a 16 16 v b (pkc p ad c) 28 hd.rw_ hb hl (fun e => hd.ne.2.2.1 e.symm) (fun e => (hd.own g e).2.2.1 rfl) hd.hp (by rw [pkc_len (by rw [hip]; rfl)]; omega) (pkc_z hip) (by omega) (by omega)
  have HRB := hid (hrb.mono (R' := CrP X w q z g n v b { p with ip := ipN b a } ad c (a + rbN b a 16) (rbE b a 16)) fun e W' hp => ⟨hp.1, hd.both hp.2 (row_ip hip b a _ (by unfold rbN; omega))⟩)
  clear h hb hl hd hrb
  go_enter Try.func68, Try.ntmps68
  go_upto_region 1 with (fail)
  refine D.wp_region_mix [1, 1, 0, 0, 0, 3, 0] (fun W => W.cell? ⟨n, 0, none⟩ = some (.pointer (some ⟨q, 0, none⟩)) ∧ W.cell? ⟨n + 1, 0, none⟩ = some (.pointer (some ⟨g, 0, none⟩))) (by kernel_rfl) (by kernel_rfl) ⟨by simpa using c0, by simpa using c1⟩ ?_
  refine C.wpMix_read (.pointer (some ⟨q, 0, none⟩)) rfl rfl (by rintro W ⟨h1, h2⟩; go_simp) ?_
  simp only [Act.put, List.setIfInBounds_toArray, List.set_cons_zero, List.set_cons_succ]
  refine C.wpMix_read (.pointer (some ⟨g, 0, none⟩)) rfl rfl (by rintro W ⟨h1, h2⟩; go_simp) ?_
  simp only [Act.put, List.setIfInBounds_toArray, List.set_cons_zero, List.set_cons_succ]
  refine C.wpMix_value (.pointer (some ⟨g, 0, none⟩)) rfl rfl (by intro W; go_simp) ?_
  simp only [Act.put, List.setIfInBounds_toArray, List.set_cons_zero, List.set_cons_succ]
  refine C.wpMix_value (.pointer (some ⟨g, 5, none⟩)) rfl rfl (by intro W; go_simp) ?_
  simp only [Act.put, List.setIfInBounds_toArray, List.set_cons_zero, List.set_cons_succ]
  refine C.wpMix_value (.slice (some ⟨g, 5, none⟩) 16 16) rfl rfl (by intro W; go_simp) ?_
  simp only [Act.put, List.setIfInBounds_toArray, List.set_cons_zero, List.set_cons_succ]
  refine C.wpMix_call 69 #[.pointer (some ⟨q, 0, none⟩), .slice (some ⟨g, 5, none⟩) 16 16] (by decide) rfl (by go_simp) ?_
  refine HRB.out.mono ?_
  rintro e W2 ⟨rfl, h2⟩
  refine ⟨_, rfl, fun h => (by cases h), ?_⟩
  simp only [Act.put, List.setIfInBounds_toArray, List.set_cons_zero, List.set_cons_succ]
  have H2 := hid h2
  clear h2
  refine' C.wpMix_value _ rfl rfl _ _
  rotate_left
  · intro W; go_simp; with_reducible rfl
  simp only [Act.put, List.setIfInBounds_toArray, List.set_cons_zero, List.set_cons_succ]
  refine C.wpMix_end ?_
  go_wp2
  go_ret
  exact ⟨rfl, H2.out⟩
end
end Go.Proofs.Ytceeipejhmnkfaa

namespace Go.Proofs.Ytceeipejhmnkfaa
open Go Go.ChangeShapes Go.WideShapes Go.ChangeAt Go.RowKit

/-- What is read, plainly. -/
def refR (b : List Int) (a : Nat) : Option (List Orf × Nat) :=
  if (rd b a 8).2.2 = 0 then
    if (rd b a 8).1 = 0 then some ([], (rd b a 8).2.1)
    else if (rd b a 8).1 = 1 then
      if (rd b a 8).2.1 + 64 ≤ b.length then
        if (decO ((b.drop (rd b a 8).2.1).take 64)).2 = 0 then some ([(decO ((b.drop (rd b a 8).2.1).take 64)).1], (rd b a 8).2.1 + 64) else none
      else none
    else none
  else none
/-- What readRef answers, and what it leaves. -/
def RfP (X : Option (Nat × Obj)) (w : World) (q z g n : Nat) (v : Value) (b : List Int) (p : Pk) (a : Nat) (e : Ending) (W' : World) : Prop :=
  ∃ (rs : List Orf) (ad : Option Addr) (c a' : Nat) (er : Int), e = .returned (.int .i64 er) ∧ PSt X w q z g n v b { p with rs := rs } ad c a' W' ∧ RwO W' W'.heap.size ad rs ∧ (rs.length ≤ c ∧ c ≤ 9223372036854775807) ∧ (∀ x ∈ rs, OrfOk x) ∧
    (∀ b' o', ad = some ⟨b', o', none⟩ → b' ≠ z ∧ b' ≠ g ∧ b' ≠ q ∧ w.heap.size ≤ b') ∧ ((er = 0 ∧ refR b a = some (rs, a')) ∨ (er ≠ 0 ∧ refR b a = none))
section
variable {X : Option (Nat × Obj)} {w W : World} {q z g n : Nat} {v : Value} {b : List Int} {p : Pk} {ad : Option Addr} {c a : Nat}
/-- What turns a block beside. -/
theorem PSt.aside {W W' : World} {a' t : Nat} {row : List Value} {T : TypeId} (h : PSt X w q z g n v b p ad c a W) (k : BSt W q t v b a' row T W') (ht : t ≠ n ∧ t ≠ n + 1 ∧ t ≠ g ∧ t ≠ z ∧ w.heap.size ≤ t) (hx : ∀ k o, X = some (k, o) → t ≠ k) : PSt X w q z g n v b p ad c a' W' := by
  obtain ⟨n1, n2, n3, n4, n5, n6, n7, n8, n9⟩ := h.ne
  refine ⟨k.rw_, ?_, ?_, h.hp.fr' k.f (by omega), h.hz.fr' k.f (by omega), h.b.trans (k.f.below h.b.size (fun j hj => by have := h.lo; omega)), h.lo, h.ne, h.own, fun k' o hk => by
    obtain ⟨e1, e2, e3⟩ := h.ex k' o hk
    have := hx k' o hk
    exact ⟨by rw [k.f.block k' (lt_of_heap e1) (by omega)]; exact e1, e2, e3⟩⟩
  · rw [k.f.block _ (lt_of_heap h.hr) (by omega)]; exact h.hr
  · rw [k.f.block _ (lt_of_heap h.hg) (by omega)]; exact h.hg
set_option maxRecDepth 100000 in
set_option maxHeartbeats 2000000 in
theorem readRef_any (h16 : p.ip.length = 16) (hrs : p.rs = []) (h : PSt X w q z g n v b p none 0 a W) (hb : Byt b) (hl : b.length ≤ 140737488351232) :
    Calls Try.prog 76 #[.pointer (some ⟨q, 0, none⟩), .pointer (some ⟨g, 24, none⟩)] W (RfP X w q z g n v b p a) := by
  have HN := hid (h.num hb hl 8)
  have HB := hid hb
  have HL := hid hl
  have hp0 : p = { p with rs := [] } := by cases p; simp only at hrs; subst hrs; rfl
  have HP0 := hid hp0
  have HZ := hid (refR.eq_1 b a)
  unfold RfP
  generalize refR b a = rr at *
  generalize hr : rd b a 8 = r at *
  obtain ⟨l, a1, er⟩ := r
  have hl0 : 0 ≤ l := by have := (rd_pos (a := a) (s := 8) hb).1; rw [hr] at this; exact this
  simp only at HN HZ
  have hnone : ∀ (er : Int) (a1 : Nat) (W' : World), er ≠ 0 → rr = none → PSt X w q z g n v b p none 0 a1 W' → ∃ (rs : List Orf) (ad : Option Addr) (c a' : Nat) (er' : Int), Ending.returned (.int .i64 er) = .returned (.int .i64 er') ∧ PSt X w q z g n v b { p with rs := rs } ad c a' W' ∧ RwO W' W'.heap.size ad rs ∧ (rs.length ≤ c ∧ c ≤ 9223372036854775807) ∧ (∀ x ∈ rs, OrfOk x) ∧
    (∀ b' o', ad = some ⟨b', o', none⟩ → b' ≠ z ∧ b' ≠ g ∧ b' ≠ q ∧ w.heap.size ≤ b') ∧ ((er' = 0 ∧ rr = some (rs, a')) ∨ (er' ≠ 0 ∧ rr = none)) := fun er a1 W' he hn hS =>
    ⟨[], none, 0, a1, er, rfl, by rw [← HP0.out]; exact hS, RwO.nil _ _, ⟨Nat.le_refl _, by omega⟩, fun x hx => by (cases hx), fun b' o' he => by (cases he), .inr ⟨he, hn⟩⟩
  have HNO := hid hnone
  clear h hb hl hr hp0 hnone
  by_cases he : er = 0
  case neg =>
    rw [if_neg he] at HZ
    have hd : (er != 0) = true := by simpa using he
    have HE := hid he
    clear he
    go_enter Try.func76, Try.ntmps76
    go_wp2_with fail
    refine HN.out.mono ?_
    rintro e w2 ⟨rfl, h2⟩
    have H2 := hid h2
    clear h2
    go_wp2
    go_ret
    exact HNO.out er _ _ HE.out HZ.out H2.out
  subst he
  rw [if_pos rfl] at HZ
  by_cases hl1 : l = 0
  · subst hl1
    rw [if_pos rfl] at HZ
    go_enter Try.func76, Try.ntmps76
    go_wp2_with fail
    refine HN.out.mono ?_
    rintro e w2 ⟨rfl, h2⟩
    have H2 := hid h2
    clear h2
    go_wp2
    go_ret
    exact ⟨[], none, 0, a1, 0, rfl, by rw [← HP0.out]; exact H2.out, RwO.nil _ _, ⟨Nat.le_refl _, by omega⟩, fun x hx => by (cases hx), fun b' o' he => by (cases he), .inl ⟨rfl, HZ.out⟩⟩
  rw [if_neg hl1] at HZ
  by_cases hl2 : l = 1
  case neg =>
    rw [if_neg hl2] at HZ
    have d0 : (l == 0) = false := by simpa using hl1
    have d1 : (l == 1) = false := by simpa using hl2
    clear hl1 hl2
    go_enter Try.func76, Try.ntmps76
    go_wp2_with fail
    refine HN.out.mono ?_
    rintro e w2 ⟨rfl, h2⟩
    have H2 := hid h2
    clear h2
    go_wp2
    go_ret
    exact HNO.out 5 _ _ (by decide) HZ.out H2.out
  subst hl2
  rw [if_pos rfl] at HZ
  clear hl1 hl0
  go_enter Try.func76, Try.ntmps76
  go_wp2_with fail
  refine HN.out.mono ?_
  rintro e w2 ⟨rfl, h2⟩
  obtain ⟨w3, hw3⟩ : ∃ w3, w3 = w2.alloc (.cells (u8s (List.replicate 64 0)) 106) := ⟨_, rfl⟩
  have ht3 : w3.heap[w2.heap.size]? = some (.cells (u8s (List.replicate 64 0)) 106 (0, 0)) := by rw [hw3]; exact heap_alloc_new _ _
  have hb3 : Below w2.heap.size w2 w3 := by rw [hw3]; exact (Below.refl _ _).alloc (Nat.le_refl _) _
  have h3 := h2.on hb3
  obtain ⟨t, ht⟩ : ∃ t, t = w2.heap.size := ⟨_, rfl⟩
  have hside : t ≠ n ∧ t ≠ n + 1 ∧ t ≠ g ∧ t ≠ z ∧ w.heap.size ≤ t := by
    have k1 := lt_of_heap h2.hr
    have k2 := lt_of_heap h2.hg
    have k3 := h2.hp.lt
    have k4 := h2.hz.lt
    have k5 := h2.b.size
    omega
  have HXT := hid (show ∀ k o, X = some (k, o) → t ≠ k from fun k o hk => by have := lt_of_heap (h2.ex k o hk).1; omega)
  have htq : t ≠ q := by have := h2.rw_.lt; omega
  have htv : v.ownBlock ≠ some t := fun e => by have := (h2.rw_.row.lt t e).2; omega
  rw [← ht] at ht3
  have HRB := hid (readBytes_any w3 q t 0 a1 64 64 v b (u8l (List.replicate 64 0)) 106 h3.rw_ HB.out HL.out htq htv ht3 (by simp [u8l]) (fun j _ hj => by
    rw [show u8l (List.replicate 64 0) = List.replicate 64 (.int .u8 0) from rfl, List.getElem?_replicate, if_pos (by omega)]) (by omega) (by omega))
  have H3 := hid h3
  have HW3 := hid hw3
  have HT := hid ht
  have HSD := hid hside
  have HTQ := hid htq
  clear h2 h3 hw3 ht3 hb3 hside htv HN ht htq
  go_upto_region 9 with (fail)
  change Code.wp _ _ _ _ (w2.alloc (.cells (u8s (List.replicate 64 0)) 106))
  rw [← HW3.out, ← HT.out]
  go_wp2_with fail
  refine HRB.out.mono ?_
  rintro e w4 ⟨rfl, h4⟩
  by_cases hfit : a1 + 64 ≤ b.length
  case neg =>
    rw [if_neg hfit] at HZ
    have hE : rbE b a1 64 = 6 := by unfold rbE; rw [if_neg hfit]
    rw [hE]
    have H4 := hid (H3.out.aside h4 HSD.out HXT.out)
    clear h4 hE hfit HRB H3 HW3
    go_wp2
    go_ret
    exact HNO.out 6 _ _ (by decide) HZ.out H4.out
  rw [if_pos hfit] at HZ
  have hE : rbE b a1 64 = 0 := by unfold rbE; rw [if_pos hfit]
  have hN : rbN b a1 64 = 64 := by unfold rbN; omega
  rw [hE]
  have hrow : rowAt (u8l (List.replicate 64 0)) 0 b a1 64 = u8l ((b.drop a1).take 64) := by
    unfold rowAt
    rw [show (u8l (List.replicate 64 0)).drop (0 + 64) = [] from List.drop_of_length_le (by rw [u8l_len, List.length_replicate]; omega), List.take_zero, List.nil_append, List.append_nil]
  rw [hN, hrow] at h4
  obtain ⟨fs, hfs⟩ : ∃ fs, fs = (b.drop a1).take 64 := ⟨_, rfl⟩
  rw [← hfs] at HZ h4
  have hfl : 64 = fs.length := by rw [hfs]; simp; omega
  have hfb : Byt fs := by rw [hfs]; exact HB.out.part a1 64
  have HDE := hid (Decode_any w4 (some ⟨t, 0, none⟩) 64 64 fs ⟨fun _ => ⟨t, 0, rfl, lt_of_heap h4.ht⟩, fun b o he => by cases he; exact AtL.row (cs := u8l fs) h4.ht⟩ hfl hfb (by omega))
  unfold DecPost at HDE
  have Hx := hid (decO_ok hfb)
  obtain ⟨x, hx⟩ : ∃ x, x = (decO fs).1 := ⟨_, rfl⟩
  obtain ⟨er, her⟩ : ∃ er, er = (decO fs).2 := ⟨_, rfl⟩
  rw [← hx, ← her] at HZ HDE
  rw [← hx] at Hx
  have H4 := hid (H3.out.aside h4 HSD.out HXT.out)
  have HSE := hid (show (orA orZ).size = (orA x).size by rw [orA_size orZ_ok, orA_size Hx.out])
  have HIN := hid (infoO Hx.out)
  clear h4 hE hN hrow hfit HRB H3 HW3 hfs hfl hfb hx her HT HSD HTQ
  go_wp2_with fail
  refine HDE.out.mono ?_
  rintro e w5 ⟨rfl, hb5⟩
  have H5 := hid (H4.out.on hb5)
  obtain ⟨w6, hw6⟩ : ∃ w6, w6 = w5.alloc (.cells (orA orZ) 58) := ⟨_, rfl⟩
  have hz6 : w6.heap[w5.heap.size]? = some (.cells (orA orZ) 58 (0, 0)) := by rw [hw6]; exact heap_alloc_new _ _
  have hb6 : Below w5.heap.size w5 w6 := by rw [hw6]; exact (Below.refl _ _).alloc (Nat.le_refl _) _
  obtain ⟨w7, hw7⟩ : ∃ w7, w7 = w6.setRow w5.heap.size (orA x) := ⟨_, rfl⟩
  have ho7 : InO w7 w5.heap.size x := by rw [hw7]; exact setRow_heap _ _ _ _ _ _ hz6
  have hb7 : Below w5.heap.size w5 w7 := by rw [hw7]; exact below_setRow hb6 _ _ (Nat.le_refl _)
  have HZ6 := hid hz6
  rw [hw6] at HZ6
  have HO7 := hid ho7
  have H7 := hid (H5.out.on hb7)
  have HW7 := hid (show w7 = (w5.alloc (.cells (orA orZ) 58)).setRow w5.heap.size (orA x) by rw [hw7, hw6])
  obtain ⟨w8, hw8⟩ : ∃ w8, w8 = w7.alloc (.cells (orA x) 58) := ⟨_, rfl⟩
  have ho8 : InO w8 w7.heap.size x := by rw [hw8]; exact heap_alloc_new _ _
  have hb8 : Below w7.heap.size w7 w8 := by rw [hw8]; exact (Below.refl _ _).alloc (Nat.le_refl _) _
  have h8 := H7.out.on hb8
  have hG : w7.heap.size ≠ z ∧ w7.heap.size ≠ g ∧ w7.heap.size ≠ q ∧ w.heap.size ≤ w7.heap.size := by
    have k4 := H7.out.b.size
    have k1 := H7.out.hz.lt
    have k2 := H7.out.hp.lt
    have k3 := H7.out.rw_.lt
    omega
  have HGG := hid hG
  have HO8 := hid ho8
  have H8 := hid h8
  have HW8 := hid hw8
  have c24 := h8.hp.c24 h16
  have z24 := h8.hp.fz 24
  clear hb5 hw6 hz6 hb6 hw7 ho7 hb7 hw8 ho8 hb8 h8 hG H4 HDE
  go_upto_region 13 with (first | ((with_reducible refine at_op ⟨none, .store 58 (.tmp 9) (.tmp 33), _, _, _, _⟩ ?_); refine wpList_store_row rfl 58 _ _ rfl w5.heap.size (orA x) rfl rfl 58 (orA orZ) HZ6.out HIN.out HSE.out (orA_one _) ?_) | fail)
  change Code.wp _ _ _ _ ((w5.alloc (.cells (orA orZ) 58)).setRow w5.heap.size (orA x))
  rw [← HW7.out]
  go_wp2_with (first
    | ((with_reducible refine at_op ⟨some 36, _, _, _, _, _⟩ ?_); refine wpList_runW rfl (.agg (orA x)) (load_o rfl rfl HO7.out Hx.out) ?_)
    | ((with_reducible refine at_op ⟨some 37, _, _, _, _, _⟩ ?_); refine wpList_runN rfl (.slice (some ⟨w7.heap.size, 0, none⟩) 1 1) w8 (by rw [HW8.out]; exact exec_one Hx.out rfl rfl) ?_)
    | fail)
  go_ret
  have hf9 : Fr (fun j => j = g) w8 (w8.setCell ⟨g, 24, none⟩ (.slice (some ⟨w7.heap.size, 0, none⟩) 1 1)) := (Fr.refl (fun j => j = g) w8).setCell ⟨g, 24, none⟩ _ (fun _ => rfl)
  have ho9 : InO (w8.setCell ⟨g, 24, none⟩ (.slice (some ⟨w7.heap.size, 0, none⟩) 1 1)) w7.heap.size x := HO8.out.fr hf9 HGG.out.2.1
  refine ⟨[x], some ⟨w7.heap.size, 0, none⟩, 1, a1 + 64, er, rfl, H8.out.set 24 _ (pkc_setb h16 3 _ rfl rfl rfl rfl rfl rfl (by rw [hrs]; rfl)), ⟨fun _ => ⟨_, _, rfl, ho9.lt⟩, fun b' o' he i y hy => ?_⟩, ⟨Nat.le_refl _, by decide⟩, fun y hy => ?_, fun b' o' he => ?_, ?_⟩
  · cases he
    match i, hy with
    | 0, hy =>
      cases hy
      simpa using AtL.row (cs := orc x) ho9
  · rw [List.mem_singleton] at hy
    subst hy
    exact Hx.out
  · cases he
    exact HGG.out
  · have hz := HZ.out
    by_cases he : er = 0
    · rw [if_pos he] at hz
      exact .inl ⟨he, hz⟩
    · rw [if_neg he] at hz
      exact .inr ⟨he, hz⟩
end
end Go.Proofs.Ytceeipejhmnkfaa

namespace Go.Proofs.Ytceeipejhmnkfaa
open Go Go.ChangeShapes Go.WideShapes Go.ChangeAt Go.RowKit

section
variable {X : Option (Nat × Obj)} {w W : World} {q z g n : Nat} {v : Value} {b : List Int} {p : Pk} {a : Nat}
set_option maxRecDepth 100000 in
theorem rr6 (h16 : p.ip.length = 16) (hrs : p.rs = []) (h : PSt X w q z g n v b p none 0 a W) (hb : Byt b) (hl : b.length ≤ 140737488351232) :
    Calls Try.prog 75 #[.pointer (some ⟨n, 0, none⟩), .pointer (some ⟨n + 1, 0, none⟩)] W (RfP X w q z g n v b p a) := by
  have c0 := cell_of_row W n 0 _ 64 _ h.hr
  have c1 := cell_of_row W (n + 1) 0 _ 82 _ h.hg
  have hd := h.on (Below.refl _ W).drew
  have HRB := hid (readRef_any h16 hrs hd hb hl)
  clear h hb hl hd hrs
  go_enter Try.func75, Try.ntmps75
  go_upto_region 1 with (fail)
  refine D.wp_region_mix [1, 1, 0, 0, 3, 0] (fun W => W.cell? ⟨n, 0, none⟩ = some (.pointer (some ⟨q, 0, none⟩)) ∧ W.cell? ⟨n + 1, 0, none⟩ = some (.pointer (some ⟨g, 0, none⟩))) (by kernel_rfl) (by kernel_rfl) ⟨by simpa using c0, by simpa using c1⟩ ?_
  refine C.wpMix_read (.pointer (some ⟨q, 0, none⟩)) rfl rfl (by rintro W ⟨h1, h2⟩; go_simp) ?_
  simp only [Act.put, List.setIfInBounds_toArray, List.set_cons_zero, List.set_cons_succ]
  refine C.wpMix_read (.pointer (some ⟨g, 0, none⟩)) rfl rfl (by rintro W ⟨h1, h2⟩; go_simp) ?_
  simp only [Act.put, List.setIfInBounds_toArray, List.set_cons_zero, List.set_cons_succ]
  refine C.wpMix_value (.pointer (some ⟨g, 0, none⟩)) rfl rfl (by intro W; go_simp) ?_
  simp only [Act.put, List.setIfInBounds_toArray, List.set_cons_zero, List.set_cons_succ]
  refine C.wpMix_value (.pointer (some ⟨g, 24, none⟩)) rfl rfl (by intro W; go_simp) ?_
  simp only [Act.put, List.setIfInBounds_toArray, List.set_cons_zero, List.set_cons_succ]
  refine C.wpMix_call 76 #[.pointer (some ⟨q, 0, none⟩), .pointer (some ⟨g, 24, none⟩)] (by decide) rfl (by go_simp) ?_
  refine HRB.out.mono ?_
  rintro e W2 ⟨rs, ad, c, a', er, rfl, h2⟩
  refine ⟨_, rfl, fun h => (by cases h), ?_⟩
  simp only [Act.put, List.setIfInBounds_toArray, List.set_cons_zero, List.set_cons_succ]
  have H2 := hid h2
  clear h2
  refine' C.wpMix_value _ rfl rfl _ _
  rotate_left
  · intro W; go_simp; with_reducible rfl
  simp only [Act.put, List.setIfInBounds_toArray, List.set_cons_zero, List.set_cons_succ]
  refine C.wpMix_end ?_
  go_wp2
  go_ret
  exact ⟨rs, ad, c, a', er, rfl, H2.out⟩
end
def hrA (n : Nat) : Array Value := #[cloF 61 n, cloF 63 n, cloF 64 n, cloF 65 n]
theorem hrA_one (n : Nat) : (hrA n).all (·.oneCell') = true := by
  simp [hrA, cloF]
  exact ⟨rfl, rfl, rfl, rfl⟩
set_option maxRecDepth 100000 in
theorem szhrA : (Try.prog.info? 80).map (·.size) = some 4 := by kernel_rfl
def HrP (w : World) (q g : Nat) (e : Ending) (w' : World) : Prop :=
  e = .returned (.agg (hrA w.heap.size)) ∧ w'.heap[w.heap.size]? = some (.cells #[.pointer (some ⟨q, 0, none⟩)] 64 (0, 0)) ∧ w'.heap[w.heap.size + 1]? = some (.cells #[.pointer (some ⟨g, 0, none⟩)] 82 (0, 0)) ∧ Below w.heap.size w w'
set_option maxRecDepth 100000 in
set_option maxHeartbeats 1000000 in
theorem headReaders_any (q g : Nat) (w : World) : Calls Try.prog 51 #[.pointer (some ⟨q, 0, none⟩), .pointer (some ⟨g, 0, none⟩)] w (HrP w q g) := by
  obtain ⟨w1, hw1⟩ : ∃ w1, w1 = w.alloc (.cells #[.pointer (some ⟨q, 0, none⟩)] 64) := ⟨_, rfl⟩
  have s1 : w1.heap.size = w.heap.size + 1 := by rw [hw1]; simp
  have p1 : w1.heap[w.heap.size]? = some (.cells #[.pointer (some ⟨q, 0, none⟩)] 64 (0, 0)) := by rw [hw1]; exact heap_alloc_new _ _
  obtain ⟨w2, hw2⟩ : ∃ w2, w2 = w1.alloc (.cells #[.pointer (some ⟨g, 0, none⟩)] 82) := ⟨_, rfl⟩
  have s2 : w2.heap.size = w.heap.size + 1 + 1 := by rw [hw2]; simp [s1]
  have p2 : w2.heap[w.heap.size]? = some (.cells #[.pointer (some ⟨q, 0, none⟩)] 64 (0, 0)) := by rw [hw2, heap_alloc_old _ _ (by omega)]; exact p1
  have o2 : w2.heap[w.heap.size + 1]? = some (.cells #[.pointer (some ⟨g, 0, none⟩)] 82 (0, 0)) := by rw [hw2, ← s1]; exact heap_alloc_new _ _
  obtain ⟨w3, hw3⟩ : ∃ w3, w3 = w2.alloc (.cells (nils 4) 80) := ⟨_, rfl⟩
  have p3 : w3.heap[w.heap.size]? = some (.cells #[.pointer (some ⟨q, 0, none⟩)] 64 (0, 0)) := by rw [hw3, heap_alloc_old _ _ (by omega)]; exact p2
  have o3 : w3.heap[w.heap.size + 1]? = some (.cells #[.pointer (some ⟨g, 0, none⟩)] 82 (0, 0)) := by rw [hw3, heap_alloc_old _ _ (by omega)]; exact o2
  have z3 : w3.heap[w.heap.size + 1 + 1]? = some (.cells (nils 4) 80 (0, 0)) := by rw [hw3, ← s2]; exact heap_alloc_new _ _
  have b3 : Below w.heap.size w w3 := by rw [hw3, hw2, hw1]; exact (((Below.refl _ _).alloc (Nat.le_refl _) _).alloc (by simp) _).alloc (by simp; omega) _
  have HW := hid (show w3 = ((w.alloc (.cells #[.pointer (some ⟨q, 0, none⟩)] 64)).alloc (.cells #[.pointer (some ⟨g, 0, none⟩)] 82)).alloc (.cells (nils 4) 80) by rw [hw3, hw2, hw1])
  have HP3 := hid p3
  have HO3 := hid o3
  have HZ3 := hid z3
  have HB3 := hid b3
  have HSZ := hid szhrA
  clear hw1 s1 p1 hw2 s2 p2 o2 hw3 p3 o3 z3 b3
  go_enter Try.func51, Try.ntmps51
  go_upto_region 1 with (fail)
  change Code.wp _ _ _ _ (((w.alloc (.cells #[.pointer (some ⟨q, 0, none⟩)] 64)).alloc (.cells #[.pointer (some ⟨g, 0, none⟩)] 82)).alloc (.cells (nils 4) 80))
  rw [← HW.out]
  go_wp2_with (first | ((with_reducible refine at_op ⟨none, .store 80 (.tmp 4) (.tmp 9), _, _, _, _⟩ ?_); refine wpList_store_row rfl 80 _ _ rfl (w.heap.size + 1 + 1) (hrA w.heap.size) rfl rfl 80 (nils 4) HZ3.out HSZ.out rfl (hrA_one _) ?_))
  refine cells_ret (r := 4) (T := 80) rfl rfl rfl (run_loadVar_row (P := Try.prog) _ _ _ 80 _ (0, 0) _ (setRow_heap _ _ _ _ _ _ HZ3.out) Try.underlying80 rfl HSZ.out) ⟨rfl, ?_, ?_, below_setRow HB3.out _ _ (by omega)⟩
  · rw [setRow_other _ _ _ _ (by omega)]; exact HP3.out
  · rw [setRow_other _ _ _ _ (by omega)]; exact HO3.out
def rrA (n : Nat) : Array Value := #[cloF 67 n, cloF 68 n, cloF 70 n, cloF 71 n, cloF 73 n, cloF 75 n]
theorem rrA_one (n : Nat) : (rrA n).all (·.oneCell') = true := by
  simp [rrA, cloF]
  exact ⟨rfl, rfl, rfl, rfl, rfl, rfl⟩
set_option maxRecDepth 100000 in
theorem szrrA : (Try.prog.info? 83).map (·.size) = some 6 := by kernel_rfl
def RrP (w : World) (q g : Nat) (e : Ending) (w' : World) : Prop :=
  e = .returned (.agg (rrA w.heap.size)) ∧ w'.heap[w.heap.size]? = some (.cells #[.pointer (some ⟨q, 0, none⟩)] 64 (0, 0)) ∧ w'.heap[w.heap.size + 1]? = some (.cells #[.pointer (some ⟨g, 0, none⟩)] 82 (0, 0)) ∧ Below w.heap.size w w'
set_option maxRecDepth 100000 in
set_option maxHeartbeats 1000000 in
theorem readers_any (q g : Nat) (w : World) : Calls Try.prog 52 #[.pointer (some ⟨q, 0, none⟩), .pointer (some ⟨g, 0, none⟩)] w (RrP w q g) := by
  obtain ⟨w1, hw1⟩ : ∃ w1, w1 = w.alloc (.cells #[.pointer (some ⟨q, 0, none⟩)] 64) := ⟨_, rfl⟩
  have s1 : w1.heap.size = w.heap.size + 1 := by rw [hw1]; simp
  have p1 : w1.heap[w.heap.size]? = some (.cells #[.pointer (some ⟨q, 0, none⟩)] 64 (0, 0)) := by rw [hw1]; exact heap_alloc_new _ _
  obtain ⟨w2, hw2⟩ : ∃ w2, w2 = w1.alloc (.cells #[.pointer (some ⟨g, 0, none⟩)] 82) := ⟨_, rfl⟩
  have s2 : w2.heap.size = w.heap.size + 1 + 1 := by rw [hw2]; simp [s1]
  have p2 : w2.heap[w.heap.size]? = some (.cells #[.pointer (some ⟨q, 0, none⟩)] 64 (0, 0)) := by rw [hw2, heap_alloc_old _ _ (by omega)]; exact p1
  have o2 : w2.heap[w.heap.size + 1]? = some (.cells #[.pointer (some ⟨g, 0, none⟩)] 82 (0, 0)) := by rw [hw2, ← s1]; exact heap_alloc_new _ _
  obtain ⟨w3, hw3⟩ : ∃ w3, w3 = w2.alloc (.cells (nils 6) 83) := ⟨_, rfl⟩
  have p3 : w3.heap[w.heap.size]? = some (.cells #[.pointer (some ⟨q, 0, none⟩)] 64 (0, 0)) := by rw [hw3, heap_alloc_old _ _ (by omega)]; exact p2
  have o3 : w3.heap[w.heap.size + 1]? = some (.cells #[.pointer (some ⟨g, 0, none⟩)] 82 (0, 0)) := by rw [hw3, heap_alloc_old _ _ (by omega)]; exact o2
  have z3 : w3.heap[w.heap.size + 1 + 1]? = some (.cells (nils 6) 83 (0, 0)) := by rw [hw3, ← s2]; exact heap_alloc_new _ _
  have b3 : Below w.heap.size w w3 := by rw [hw3, hw2, hw1]; exact (((Below.refl _ _).alloc (Nat.le_refl _) _).alloc (by simp) _).alloc (by simp; omega) _
  have HW := hid (show w3 = ((w.alloc (.cells #[.pointer (some ⟨q, 0, none⟩)] 64)).alloc (.cells #[.pointer (some ⟨g, 0, none⟩)] 82)).alloc (.cells (nils 6) 83) by rw [hw3, hw2, hw1])
  have HP3 := hid p3
  have HO3 := hid o3
  have HZ3 := hid z3
  have HB3 := hid b3
  have HSZ := hid szrrA
  clear hw1 s1 p1 hw2 s2 p2 o2 hw3 p3 o3 z3 b3
  go_enter Try.func52, Try.ntmps52
  go_upto_region 1 with (fail)
  change Code.wp _ _ _ _ (((w.alloc (.cells #[.pointer (some ⟨q, 0, none⟩)] 64)).alloc (.cells #[.pointer (some ⟨g, 0, none⟩)] 82)).alloc (.cells (nils 6) 83))
  rw [← HW.out]
  go_wp2_with (first | ((with_reducible refine at_op ⟨none, .store 83 (.tmp 4) (.tmp 11), _, _, _, _⟩ ?_); refine wpList_store_row rfl 83 _ _ rfl (w.heap.size + 1 + 1) (rrA w.heap.size) rfl rfl 83 (nils 6) HZ3.out HSZ.out rfl (rrA_one _) ?_))
  refine cells_ret (r := 4) (T := 83) rfl rfl rfl (run_loadVar_row (P := Try.prog) _ _ _ 83 _ (0, 0) _ (setRow_heap _ _ _ _ _ _ HZ3.out) Try.underlying83 rfl HSZ.out) ⟨rfl, ?_, ?_, below_setRow HB3.out _ _ (by omega)⟩
  · rw [setRow_other _ _ _ _ (by omega)]; exact HP3.out
  · rw [setRow_other _ _ _ _ (by omega)]; exact HO3.out
end Go.Proofs.Ytceeipejhmnkfaa
